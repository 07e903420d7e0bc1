/- Texts that the walks of this seat lean on, put together: each has its own remark below. -/
import Derived.Test.YtopfbgoiehlhbaaM26
import Derived.Test.YtopfbgoiehlhbaaM28

/- The walk of FrameReasons. -/
namespace Go.Proofs.Ytopfbgoiehlhbaa
open Go.RowKit

theorem lt_set (l : List Nat) (k v : Nat) (hl : ∀ c ∈ l, c < 256) (hv : v < 256) : ∀ c ∈ l.set k v, c < 256 := by
  intro c hc
  rcases List.mem_or_eq_of_mem_set hc with h | rfl
  · exact hl c h
  · exact hv
theorem xor0_lt (x : Nat) (h : x < 256) : x ^^^ 2 ^ 0 < 256 := (xor_bit x 0 h (by omega)).1

set_option maxRecDepth 100000 in
set_option maxHeartbeats 4000000 in
theorem reason_0 (n k : Int) (w : World) (hk : k % 9 = 0) :
    Calls Try.prog 7 #[.int .i64 n, .int .i64 k] w fun e w' => e = .returned (.bool true) ∧ Below w.heap.size w w' := by
  obtain ⟨u, hu⟩ : ∃ u, u = (n % 1073741824).toNat := ⟨_, rfl⟩
  have CK := Lib.hid (fun W => flow_any n false false W)
  rw [← hu] at CK
  have CB := Lib.hid (show ∀ W z, Rd W (.slice (some z) 3 3) (nus .u8 [97, 98, 99]) → _ from fun W z (h : Rd W (.slice (some z) 3 3) (nus .u8 [97, 98, 99])) => fB8_any u false false 0 0 (some z) 3 3 [97, 98, 99] false false W h rfl (by intro e; cases e) (by decide) (by omega) (by omega) (by omega))
  have hlen : (fB8 u false false 0 [97, 98, 99] false false (List.replicate 0 0)).length = 57 := (fB8_told u false false 0 [97, 98, 99] false false (List.replicate 0 0) (by decide)).len
  have h0 := (fB8_told u false false 0 [97, 98, 99] false false (List.replicate 0 0) (by decide)).rr
  have hcut := fun q (hq : q < 57) => r_cut u q hq
  obtain ⟨x, y, s0, s1, s2, s3, SG, hF⟩ := fr7 u
  generalize fB8 u false false 0 [97, 98, 99] false false (List.replicate 0 0) = F at *
  have hlt := hF.lt
  obtain ⟨hx, hx24⟩ := x_lt hF
  have HXX := xor_0 x hx
  have hr : rr F = 0 := h0
  have hz := xor0_lt x hx
  generalize x ^^^ 2 ^ 0 = zx at *
  have hle : F.length ≤ 65535 := by omega
  have CR := Lib.hid (fun W z (h : Rd W z (nus .u8 F)) => fread_any z F W h hlt (.inl hle))
  have CG := Lib.hid (fun W z (h : Rd W z (nus .u8 F)) => fgood_any z F W h hlt hle)
  rw [hr] at CR
  have Q0 := fun W => eq_zero31 W
  have Y0 : Hid (v0.size = Array.size (#[Value.bool false, .int .i64 0, .int .i64 0, .int .i64 0, .int .u8 0, .bool false, .int .u8 0, .int .u8 0, .int .u8 0, .int .u8 0, .int .u8 0, .int .u8 0, .int .u8 0, .int .u8 0, .int .u8 0, .int .u8 0, .int .u8 0, .int .u8 0, .int .u8 0, .int .u8 0, .int .u8 0, .int .u8 0, .bool false, .int .u8 0, .int .u8 0, .int .u8 0, .int .u8 0, .int .u8 0, .int .u8 0, .int .u8 0, .int .u8 0, .int .u8 0, .int .u8 0, .int .u8 0, .int .u8 0, .int .u8 0, .int .u8 0, .int .u8 0, .int .u8 0, .int .u16 0, .int .u16 0, .int .u8 0] : Array Value)) := v0_size
  have Z0 := Lib.hid (i72.trans (congrArg some v0_size.symm))
  have A0 := Lib.hid v0_all
  have zv := vw_size F
  have Av := Lib.hid (vw_all F)
  generalize vw F = VA at *
  have Zv := Lib.hid (i72.trans (congrArg some zv.symm))
  have Yv : Hid (VA.size = Array.size (#[Value.bool false, .int .i64 0, .int .i64 0, .int .i64 0, .int .u8 0, .bool false, .int .u8 0, .int .u8 0, .int .u8 0, .int .u8 0, .int .u8 0, .int .u8 0, .int .u8 0, .int .u8 0, .int .u8 0, .int .u8 0, .int .u8 0, .int .u8 0, .int .u8 0, .int .u8 0, .int .u8 0, .int .u8 0, .bool false, .int .u8 0, .int .u8 0, .int .u8 0, .int .u8 0, .int .u8 0, .int .u8 0, .int .u8 0, .int .u8 0, .int .u8 0, .int .u8 0, .int .u8 0, .int .u8 0, .int .u8 0, .int .u8 0, .int .u8 0, .int .u8 0, .int .u16 0, .int .u16 0, .int .u8 0] : Array Value)) := zv
  clear zv
  rw [hlen] at CB
  have HFL := Lib.hid hlen
  have HX24 := Lib.hid hx24
  generalize flow u false false = kc at *
  clear hF hlt hlen h0 hcut hx24 hr hle hu hz
  have kcv := fun (w : World) (C : Array Value) (n c : Nat) => Lib.run_convert_bytes_const (P := Try.prog) w 22 5 C n c Try.underlying22 Try.underlying5
  have K := Lib.hid (Below.refl w.heap.size w)
  have HKK := Lib.hid hk
  clear hk
  go_enter Try.func7, Try.ntmps7
  go_wp2_with fail
  refine (CK.out _).mono ?_
  rintro e V1 ⟨rfl, hy⟩
  replace K := Lib.hid (K.out.trans (hy.mono K.out.size))
  clear hy
  have hal := (Below.refl V1.heap.size V1).alloc (Nat.le_refl _) (.cells #[Value.int .u8 97, .int .u8 98, .int .u8 99] 5 (3, 3 + 1))
  have RL0 := Lib.hid (show Rd (V1.alloc (.cells #[Value.int .u8 97, .int .u8 98, .int .u8 99] 5 (3, 3 + 1))) (.slice (some ⟨V1.heap.size, 0, none⟩) 3 3) (nus .u8 [97, 98, 99]) from rd_lit V1 .u8 5 [97, 98, 99] 3 (3, 4) rfl (by simp [maxLen]))
  go_wp2_with fail
  replace K := Lib.hid (K.out.trans (hal.mono K.out.size))
  clear hal kcv
  refine (CB.out _ _ RL0.out).mono ?_
  rintro e V2 ⟨gb, cb, rfl, ho, hy⟩
  have OW := Lib.hid (own_low K.out.size ho)
  replace K := Lib.hid (K.out.trans (hy.mono K.out.size))
  have hgb : w.heap.size ≤ gb := (OW.out.lt gb rfl).1
  have hcc : (57 : Int) ≤ (cb : Int) := by
    obtain ⟨_, _, e1, h1, -⟩ := Rd.own ho
    simp only [Value.slice.injEq] at e1
    obtain ⟨-, -, rfl⟩ := e1
    rw [nus_length, HFL.out] at h1
    omega
  clear ho hy RL0 CB CK
  go_wp2_with fail
  refine (round_any k 9 _ (by omega) (by omega)).mono ?_
  rintro e V3 ⟨rfl, rfl⟩
  rw [HKK.out]
  have R := Lib.hid (Rd.own OW.out)
  go_wp2_with fail
  refine (CR.out _ _ R.out).mono ?_
  rintro e V4 ⟨rfl, hy⟩
  replace K := Lib.hid (K.out.trans (hy.mono K.out.size))
  replace R := Lib.hid (R.out.below hy)
  clear hy
  go_wp2_with (((with_reducible refine wpList_blk_store (op := ⟨none, .store 31 (.tmp 7) (.tmp 70), _, _, _, _⟩) ?sg1 31 (.tmp 7) (.tmp 70) ?so1 (V4.heap.size) VA ?sx1 ?sy1 (Blk.new V4 31 #[Value.bool false, .int .i64 0, .int .i64 0, .int .i64 0, .int .u8 0, .bool false, .int .u8 0, .int .u8 0, .int .u8 0, .int .u8 0, .int .u8 0, .int .u8 0, .int .u8 0, .int .u8 0, .int .u8 0, .int .u8 0, .int .u8 0, .int .u8 0, .int .u8 0, .int .u8 0, .int .u8 0, .int .u8 0, .bool false, .int .u8 0, .int .u8 0, .int .u8 0, .int .u8 0, .int .u8 0, .int .u8 0, .int .u8 0, .int .u8 0, .int .u8 0, .int .u8 0, .int .u8 0, .int .u8 0, .int .u8 0, .int .u8 0, .int .u8 0, .int .u8 0, .int .u16 0, .int .u16 0, .int .u8 0]) Yv.out Zv.out Av.out ?_); (case sg1 => rfl); (case so1 => rfl); (case sx1 => rfl); (case sy1 => rfl)))
  intro V5 hA hF hB
  have hy := ((Below.refl V4.heap.size V4).alloc (Nat.le_refl _) (.cells #[Value.bool false, .int .i64 0, .int .i64 0, .int .i64 0, .int .u8 0, .bool false, .int .u8 0, .int .u8 0, .int .u8 0, .int .u8 0, .int .u8 0, .int .u8 0, .int .u8 0, .int .u8 0, .int .u8 0, .int .u8 0, .int .u8 0, .int .u8 0, .int .u8 0, .int .u8 0, .int .u8 0, .int .u8 0, .bool false, .int .u8 0, .int .u8 0, .int .u8 0, .int .u8 0, .int .u8 0, .int .u8 0, .int .u8 0, .int .u8 0, .int .u8 0, .int .u8 0, .int .u8 0, .int .u8 0, .int .u8 0, .int .u8 0, .int .u8 0, .int .u8 0, .int .u16 0, .int .u16 0, .int .u8 0] 31)).trans (hB _ (Nat.le_refl _))
  replace K := Lib.hid (K.out.trans (hy.mono K.out.size))
  replace R := Lib.hid (R.out.below hy)
  have HX := Lib.hid hA
  clear hA hF hB hy
  go_wp2_with fail
  refine (awake_any _).mono ?_
  rintro e V6 ⟨rfl, hy⟩
  replace K := Lib.hid (K.out.trans (hy.mono K.out.size))
  replace R := Lib.hid (R.out.below hy)
  replace HX := Lib.hid (HX.out.below hy HX.out.lt)
  clear hy
  go_wp2
  go_ret
  exact ⟨rfl, K.out⟩

set_option maxRecDepth 100000 in
set_option maxHeartbeats 4000000 in
theorem reason_1 (n k : Int) (w : World) (hk : k % 9 = 1) :
    Calls Try.prog 7 #[.int .i64 n, .int .i64 k] w fun e w' => e = .returned (.bool true) ∧ Below w.heap.size w w' := by
  obtain ⟨u, hu⟩ : ∃ u, u = (n % 1073741824).toNat := ⟨_, rfl⟩
  have CK := Lib.hid (fun W => flow_any n false false W)
  rw [← hu] at CK
  have CB := Lib.hid (show ∀ W z, Rd W (.slice (some z) 3 3) (nus .u8 [97, 98, 99]) → _ from fun W z (h : Rd W (.slice (some z) 3 3) (nus .u8 [97, 98, 99])) => fB8_any u false false 0 0 (some z) 3 3 [97, 98, 99] false false W h rfl (by intro e; cases e) (by decide) (by omega) (by omega) (by omega))
  have hlen : (fB8 u false false 0 [97, 98, 99] false false (List.replicate 0 0)).length = 57 := (fB8_told u false false 0 [97, 98, 99] false false (List.replicate 0 0) (by decide)).len
  have h0 := (fB8_told u false false 0 [97, 98, 99] false false (List.replicate 0 0) (by decide)).rr
  have hcut := fun q (hq : q < 57) => r_cut u q hq
  obtain ⟨x, y, s0, s1, s2, s3, SG, hF⟩ := fr7 u
  generalize fB8 u false false 0 [97, 98, 99] false false (List.replicate 0 0) = F at *
  have hlt := hF.lt
  obtain ⟨hx, hx24⟩ := x_lt hF
  have HXX := xor_0 x hx
  have hr : rr ((F.set 12 8).set 13 6) = 2 := r_kind hF
  have hz := xor0_lt x hx
  generalize x ^^^ 2 ^ 0 = zx at *
  have hle : ((F.set 12 8).set 13 6).length ≤ 65535 := by simp only [List.length_set]; omega
  have CR := Lib.hid (fun W z (h : Rd W z (nus .u8 ((F.set 12 8).set 13 6))) => fread_any z ((F.set 12 8).set 13 6) W h (lt_set _ 13 6 (lt_set _ 12 8 hlt (by omega)) (by omega)) (.inl hle))
  have CG := Lib.hid (fun W z (h : Rd W z (nus .u8 ((F.set 12 8).set 13 6))) => fgood_any z ((F.set 12 8).set 13 6) W h (lt_set _ 13 6 (lt_set _ 12 8 hlt (by omega)) (by omega)) hle)
  rw [hr] at CR
  rw [vw_no _ (by rw [hr]; omega)] at CR
  rw [gf_no _ (by rw [hr]; omega)] at CG
  have Q0 := fun W => eq_zero31 W
  have Y0 : Hid (v0.size = Array.size (#[Value.bool false, .int .i64 0, .int .i64 0, .int .i64 0, .int .u8 0, .bool false, .int .u8 0, .int .u8 0, .int .u8 0, .int .u8 0, .int .u8 0, .int .u8 0, .int .u8 0, .int .u8 0, .int .u8 0, .int .u8 0, .int .u8 0, .int .u8 0, .int .u8 0, .int .u8 0, .int .u8 0, .int .u8 0, .bool false, .int .u8 0, .int .u8 0, .int .u8 0, .int .u8 0, .int .u8 0, .int .u8 0, .int .u8 0, .int .u8 0, .int .u8 0, .int .u8 0, .int .u8 0, .int .u8 0, .int .u8 0, .int .u8 0, .int .u8 0, .int .u8 0, .int .u16 0, .int .u16 0, .int .u8 0] : Array Value)) := v0_size
  have Z0 := Lib.hid (i72.trans (congrArg some v0_size.symm))
  have A0 := Lib.hid v0_all
  rw [hlen] at CB
  have HFL := Lib.hid hlen
  have HX24 := Lib.hid hx24
  generalize flow u false false = kc at *
  clear hF hlt hlen h0 hcut hx24 hr hle hu hz
  have kcv := fun (w : World) (C : Array Value) (n c : Nat) => Lib.run_convert_bytes_const (P := Try.prog) w 22 5 C n c Try.underlying22 Try.underlying5
  have K := Lib.hid (Below.refl w.heap.size w)
  have HKK := Lib.hid hk
  clear hk
  go_enter Try.func7, Try.ntmps7
  go_wp2_with fail
  refine (CK.out _).mono ?_
  rintro e V1 ⟨rfl, hy⟩
  replace K := Lib.hid (K.out.trans (hy.mono K.out.size))
  clear hy
  have hal := (Below.refl V1.heap.size V1).alloc (Nat.le_refl _) (.cells #[Value.int .u8 97, .int .u8 98, .int .u8 99] 5 (3, 3 + 1))
  have RL0 := Lib.hid (show Rd (V1.alloc (.cells #[Value.int .u8 97, .int .u8 98, .int .u8 99] 5 (3, 3 + 1))) (.slice (some ⟨V1.heap.size, 0, none⟩) 3 3) (nus .u8 [97, 98, 99]) from rd_lit V1 .u8 5 [97, 98, 99] 3 (3, 4) rfl (by simp [maxLen]))
  go_wp2_with fail
  replace K := Lib.hid (K.out.trans (hal.mono K.out.size))
  clear hal kcv
  refine (CB.out _ _ RL0.out).mono ?_
  rintro e V2 ⟨gb, cb, rfl, ho, hy⟩
  have OW := Lib.hid (own_low K.out.size ho)
  replace K := Lib.hid (K.out.trans (hy.mono K.out.size))
  have hgb : w.heap.size ≤ gb := (OW.out.lt gb rfl).1
  have hcc : (57 : Int) ≤ (cb : Int) := by
    obtain ⟨_, _, e1, h1, -⟩ := Rd.own ho
    simp only [Value.slice.injEq] at e1
    obtain ⟨-, -, rfl⟩ := e1
    rw [nus_length, HFL.out] at h1
    omega
  clear ho hy RL0 CB CK
  go_wp2_with fail
  refine (round_any k 9 _ (by omega) (by omega)).mono ?_
  rintro e V3 ⟨rfl, rfl⟩
  rw [HKK.out]
  have c12x := OW.out.cellAt 12 (by omega)
  rw [nus_get _ _ _ (by have q := HFL.out; omega)] at c12x
  have f12x := OW.out.frozenAt 12
  generalize List.getD F 12 0 = y12x at c12x
  have c13x := OW.out.cellAt 13 (by omega)
  rw [nus_get _ _ _ (by have q := HFL.out; omega)] at c13x
  have f13x := OW.out.frozenAt 13
  generalize List.getD F 13 0 = y13x at c13x
  have hst0 := OW.out.stored 12 (.int .u8 ((8 : Nat) : Int))
  rw [nus_set] at hst0
  have hst0 : (V2.setCell ⟨gb, 12, none⟩ (.int .u8 8)).ownsRow w.heap.size 5 1 (.slice (some ⟨gb, 0, none⟩) 57 cb) 57 (nus .u8 (F.set 12 8)) ∧ V2.grownBy (V2.setCell ⟨gb, 12, none⟩ (.int .u8 8)) (some gb) := hst0
  have HST0 := Lib.hid hst0
  clear hst0
  have hst1 := HST0.out.1.stored 13 (.int .u8 ((6 : Nat) : Int))
  rw [nus_set] at hst1
  have hst1 : ((V2.setCell ⟨gb, 12, none⟩ (.int .u8 8)).setCell ⟨gb, 13, none⟩ (.int .u8 6)).ownsRow w.heap.size 5 1 (.slice (some ⟨gb, 0, none⟩) 57 cb) 57 (nus .u8 ((F.set 12 8).set 13 6)) ∧ (V2.setCell ⟨gb, 12, none⟩ (.int .u8 8)).grownBy ((V2.setCell ⟨gb, 12, none⟩ (.int .u8 8)).setCell ⟨gb, 13, none⟩ (.int .u8 6)) (some gb) := hst1
  have HST1 := Lib.hid hst1
  clear hst1
  go_upto_region 22 with fail
  have gr := (grownBy_trans HST0.out.2 HST1.out.2)
  replace K := Lib.hid (K.out.grown gr K.out.size (fun k e => by cases e; exact hgb))
  have R := Lib.hid (Rd.own HST1.out.1)
  clear gr OW HST0 HST1 c12x f12x c13x f13x
  generalize ((V2.setCell ⟨gb, 12, none⟩ (.int .u8 8)).setCell ⟨gb, 13, none⟩ (.int .u8 6)) = V4 at *
  go_wp2_with fail
  refine (CR.out _ _ R.out).mono ?_
  rintro e V5 ⟨rfl, hy⟩
  replace K := Lib.hid (K.out.trans (hy.mono K.out.size))
  replace R := Lib.hid (R.out.below hy)
  clear hy
  go_wp2_with (((with_reducible refine wpList_blk_store (op := ⟨none, .store 31 (.tmp 7) (.tmp 70), _, _, _, _⟩) ?sg2 31 (.tmp 7) (.tmp 70) ?so2 (V5.heap.size) v0 ?sx2 ?sy2 (Blk.new V5 31 #[Value.bool false, .int .i64 0, .int .i64 0, .int .i64 0, .int .u8 0, .bool false, .int .u8 0, .int .u8 0, .int .u8 0, .int .u8 0, .int .u8 0, .int .u8 0, .int .u8 0, .int .u8 0, .int .u8 0, .int .u8 0, .int .u8 0, .int .u8 0, .int .u8 0, .int .u8 0, .int .u8 0, .int .u8 0, .bool false, .int .u8 0, .int .u8 0, .int .u8 0, .int .u8 0, .int .u8 0, .int .u8 0, .int .u8 0, .int .u8 0, .int .u8 0, .int .u8 0, .int .u8 0, .int .u8 0, .int .u8 0, .int .u8 0, .int .u8 0, .int .u8 0, .int .u16 0, .int .u16 0, .int .u8 0]) Y0.out Z0.out A0.out ?_); (case sg2 => rfl); (case so2 => rfl); (case sx2 => rfl); (case sy2 => rfl)))
  intro V6 hA hF hB
  have hy := ((Below.refl V5.heap.size V5).alloc (Nat.le_refl _) (.cells #[Value.bool false, .int .i64 0, .int .i64 0, .int .i64 0, .int .u8 0, .bool false, .int .u8 0, .int .u8 0, .int .u8 0, .int .u8 0, .int .u8 0, .int .u8 0, .int .u8 0, .int .u8 0, .int .u8 0, .int .u8 0, .int .u8 0, .int .u8 0, .int .u8 0, .int .u8 0, .int .u8 0, .int .u8 0, .bool false, .int .u8 0, .int .u8 0, .int .u8 0, .int .u8 0, .int .u8 0, .int .u8 0, .int .u8 0, .int .u8 0, .int .u8 0, .int .u8 0, .int .u8 0, .int .u8 0, .int .u8 0, .int .u8 0, .int .u8 0, .int .u8 0, .int .u16 0, .int .u16 0, .int .u8 0] 31)).trans (hB _ (Nat.le_refl _))
  replace K := Lib.hid (K.out.trans (hy.mono K.out.size))
  replace R := Lib.hid (R.out.below hy)
  have HX := Lib.hid hA
  clear hA hF hB hy
  have L3 : (loadVar 31 ⟨V5.heap.size, 0, none⟩).run Try.prog V6 = .ok (.agg v0) V6 := run_blk_load (P := Try.prog) 31 (V5.heap.size) _ HX.out Try.underlying31 rfl Z0.out
  replace L3 := Lib.hid L3
  go_wp2_with (((with_reducible refine wpList_load_want (op := ⟨some 79, .load 31 (.tmp 7), _, _, _, _⟩) ?wg3 31 (.tmp 7) ?wo3 ⟨V5.heap.size, 0, none⟩ ?wx3 (.agg v0) L3.out ?_); (case wg3 => rfl); (case wo3 => rfl); (case wx3 => rfl)))
  clear L3
  refine (CG.out _ _ R.out).mono ?_
  rintro e V7 ⟨rfl, hy⟩
  replace K := Lib.hid (K.out.trans (hy.mono K.out.size))
  replace R := Lib.hid (R.out.below hy)
  replace HX := Lib.hid (HX.out.below hy HX.out.lt)
  clear hy
  go_wp2_with fail
  refine (awake_any _).mono ?_
  rintro e V8 ⟨rfl, hy⟩
  replace K := Lib.hid (K.out.trans (hy.mono K.out.size))
  replace R := Lib.hid (R.out.below hy)
  replace HX := Lib.hid (HX.out.below hy HX.out.lt)
  clear hy
  go_wp2
  go_ret
  exact ⟨rfl, K.out⟩

set_option maxRecDepth 100000 in
set_option maxHeartbeats 4000000 in
theorem reason_2 (n k : Int) (w : World) (hk : k % 9 = 2) :
    Calls Try.prog 7 #[.int .i64 n, .int .i64 k] w fun e w' => e = .returned (.bool true) ∧ Below w.heap.size w w' := by
  obtain ⟨u, hu⟩ : ∃ u, u = (n % 1073741824).toNat := ⟨_, rfl⟩
  have CK := Lib.hid (fun W => flow_any n false false W)
  rw [← hu] at CK
  have CB := Lib.hid (show ∀ W z, Rd W (.slice (some z) 3 3) (nus .u8 [97, 98, 99]) → _ from fun W z (h : Rd W (.slice (some z) 3 3) (nus .u8 [97, 98, 99])) => fB8_any u false false 0 0 (some z) 3 3 [97, 98, 99] false false W h rfl (by intro e; cases e) (by decide) (by omega) (by omega) (by omega))
  have hlen : (fB8 u false false 0 [97, 98, 99] false false (List.replicate 0 0)).length = 57 := (fB8_told u false false 0 [97, 98, 99] false false (List.replicate 0 0) (by decide)).len
  have h0 := (fB8_told u false false 0 [97, 98, 99] false false (List.replicate 0 0) (by decide)).rr
  have hcut := fun q (hq : q < 57) => r_cut u q hq
  obtain ⟨x, y, s0, s1, s2, s3, SG, hF⟩ := fr7 u
  generalize fB8 u false false 0 [97, 98, 99] false false (List.replicate 0 0) = F at *
  have hlt := hF.lt
  obtain ⟨hx, hx24⟩ := x_lt hF
  have HXX := xor_0 x hx
  have hr : rr (F.take 13) = 1 := hcut 13 (by omega)
  have hz := xor0_lt x hx
  generalize x ^^^ 2 ^ 0 = zx at *
  have hle : (F.take 13).length ≤ 65535 := by rw [List.length_take]; omega
  have CR := Lib.hid (fun W z (h : Rd W z (nus .u8 (F.take 13))) => fread_any z (F.take 13) W h (fun c hc => hlt c (List.mem_of_mem_take hc)) (.inl hle))
  have CG := Lib.hid (fun W z (h : Rd W z (nus .u8 (F.take 13))) => fgood_any z (F.take 13) W h (fun c hc => hlt c (List.mem_of_mem_take hc)) hle)
  rw [hr] at CR
  rw [vw_no _ (by rw [hr]; omega)] at CR
  rw [gf_no _ (by rw [hr]; omega)] at CG
  have Q0 := fun W => eq_zero31 W
  have Y0 : Hid (v0.size = Array.size (#[Value.bool false, .int .i64 0, .int .i64 0, .int .i64 0, .int .u8 0, .bool false, .int .u8 0, .int .u8 0, .int .u8 0, .int .u8 0, .int .u8 0, .int .u8 0, .int .u8 0, .int .u8 0, .int .u8 0, .int .u8 0, .int .u8 0, .int .u8 0, .int .u8 0, .int .u8 0, .int .u8 0, .int .u8 0, .bool false, .int .u8 0, .int .u8 0, .int .u8 0, .int .u8 0, .int .u8 0, .int .u8 0, .int .u8 0, .int .u8 0, .int .u8 0, .int .u8 0, .int .u8 0, .int .u8 0, .int .u8 0, .int .u8 0, .int .u8 0, .int .u8 0, .int .u16 0, .int .u16 0, .int .u8 0] : Array Value)) := v0_size
  have Z0 := Lib.hid (i72.trans (congrArg some v0_size.symm))
  have A0 := Lib.hid v0_all
  rw [hlen] at CB
  have HFL := Lib.hid hlen
  have HX24 := Lib.hid hx24
  generalize flow u false false = kc at *
  clear hF hlt hlen h0 hcut hx24 hr hle hu hz
  have kcv := fun (w : World) (C : Array Value) (n c : Nat) => Lib.run_convert_bytes_const (P := Try.prog) w 22 5 C n c Try.underlying22 Try.underlying5
  have K := Lib.hid (Below.refl w.heap.size w)
  have HKK := Lib.hid hk
  clear hk
  go_enter Try.func7, Try.ntmps7
  go_wp2_with fail
  refine (CK.out _).mono ?_
  rintro e V1 ⟨rfl, hy⟩
  replace K := Lib.hid (K.out.trans (hy.mono K.out.size))
  clear hy
  have hal := (Below.refl V1.heap.size V1).alloc (Nat.le_refl _) (.cells #[Value.int .u8 97, .int .u8 98, .int .u8 99] 5 (3, 3 + 1))
  have RL0 := Lib.hid (show Rd (V1.alloc (.cells #[Value.int .u8 97, .int .u8 98, .int .u8 99] 5 (3, 3 + 1))) (.slice (some ⟨V1.heap.size, 0, none⟩) 3 3) (nus .u8 [97, 98, 99]) from rd_lit V1 .u8 5 [97, 98, 99] 3 (3, 4) rfl (by simp [maxLen]))
  go_wp2_with fail
  replace K := Lib.hid (K.out.trans (hal.mono K.out.size))
  clear hal kcv
  refine (CB.out _ _ RL0.out).mono ?_
  rintro e V2 ⟨gb, cb, rfl, ho, hy⟩
  have OW := Lib.hid (own_low K.out.size ho)
  replace K := Lib.hid (K.out.trans (hy.mono K.out.size))
  have hgb : w.heap.size ≤ gb := (OW.out.lt gb rfl).1
  have hcc : (57 : Int) ≤ (cb : Int) := by
    obtain ⟨_, _, e1, h1, -⟩ := Rd.own ho
    simp only [Value.slice.injEq] at e1
    obtain ⟨-, -, rfl⟩ := e1
    rw [nus_length, HFL.out] at h1
    omega
  clear ho hy RL0 CB CK
  go_wp2_with fail
  refine (round_any k 9 _ (by omega) (by omega)).mono ?_
  rintro e V3 ⟨rfl, rfl⟩
  rw [HKK.out]
  have R := Lib.hid ((Rd.own OW.out).front 13 (by rw [HFL.out]; omega))
  have hc2 : (13 : Int) ≤ (cb : Int) := by omega
  go_wp2_with fail
  refine (CR.out _ _ R.out).mono ?_
  rintro e V4 ⟨rfl, hy⟩
  replace K := Lib.hid (K.out.trans (hy.mono K.out.size))
  replace R := Lib.hid (R.out.below hy)
  clear hy
  go_wp2_with (((with_reducible refine wpList_blk_store (op := ⟨none, .store 31 (.tmp 7) (.tmp 70), _, _, _, _⟩) ?sg4 31 (.tmp 7) (.tmp 70) ?so4 (V4.heap.size) v0 ?sx4 ?sy4 (Blk.new V4 31 #[Value.bool false, .int .i64 0, .int .i64 0, .int .i64 0, .int .u8 0, .bool false, .int .u8 0, .int .u8 0, .int .u8 0, .int .u8 0, .int .u8 0, .int .u8 0, .int .u8 0, .int .u8 0, .int .u8 0, .int .u8 0, .int .u8 0, .int .u8 0, .int .u8 0, .int .u8 0, .int .u8 0, .int .u8 0, .bool false, .int .u8 0, .int .u8 0, .int .u8 0, .int .u8 0, .int .u8 0, .int .u8 0, .int .u8 0, .int .u8 0, .int .u8 0, .int .u8 0, .int .u8 0, .int .u8 0, .int .u8 0, .int .u8 0, .int .u8 0, .int .u8 0, .int .u16 0, .int .u16 0, .int .u8 0]) Y0.out Z0.out A0.out ?_); (case sg4 => rfl); (case so4 => rfl); (case sx4 => rfl); (case sy4 => rfl)))
  intro V5 hA hF hB
  have hy := ((Below.refl V4.heap.size V4).alloc (Nat.le_refl _) (.cells #[Value.bool false, .int .i64 0, .int .i64 0, .int .i64 0, .int .u8 0, .bool false, .int .u8 0, .int .u8 0, .int .u8 0, .int .u8 0, .int .u8 0, .int .u8 0, .int .u8 0, .int .u8 0, .int .u8 0, .int .u8 0, .int .u8 0, .int .u8 0, .int .u8 0, .int .u8 0, .int .u8 0, .int .u8 0, .bool false, .int .u8 0, .int .u8 0, .int .u8 0, .int .u8 0, .int .u8 0, .int .u8 0, .int .u8 0, .int .u8 0, .int .u8 0, .int .u8 0, .int .u8 0, .int .u8 0, .int .u8 0, .int .u8 0, .int .u8 0, .int .u8 0, .int .u16 0, .int .u16 0, .int .u8 0] 31)).trans (hB _ (Nat.le_refl _))
  replace K := Lib.hid (K.out.trans (hy.mono K.out.size))
  replace R := Lib.hid (R.out.below hy)
  have HX := Lib.hid hA
  clear hA hF hB hy
  have L5 : (loadVar 31 ⟨V4.heap.size, 0, none⟩).run Try.prog V5 = .ok (.agg v0) V5 := run_blk_load (P := Try.prog) 31 (V4.heap.size) _ HX.out Try.underlying31 rfl Z0.out
  replace L5 := Lib.hid L5
  go_wp2_with (((with_reducible refine wpList_load_want (op := ⟨some 79, .load 31 (.tmp 7), _, _, _, _⟩) ?wg5 31 (.tmp 7) ?wo5 ⟨V4.heap.size, 0, none⟩ ?wx5 (.agg v0) L5.out ?_); (case wg5 => rfl); (case wo5 => rfl); (case wx5 => rfl)))
  clear L5
  refine (CG.out _ _ R.out).mono ?_
  rintro e V6 ⟨rfl, hy⟩
  replace K := Lib.hid (K.out.trans (hy.mono K.out.size))
  replace R := Lib.hid (R.out.below hy)
  replace HX := Lib.hid (HX.out.below hy HX.out.lt)
  clear hy
  go_wp2_with fail
  refine (awake_any _).mono ?_
  rintro e V7 ⟨rfl, hy⟩
  replace K := Lib.hid (K.out.trans (hy.mono K.out.size))
  replace R := Lib.hid (R.out.below hy)
  replace HX := Lib.hid (HX.out.below hy HX.out.lt)
  clear hy
  go_wp2
  go_ret
  exact ⟨rfl, K.out⟩

set_option maxRecDepth 100000 in
set_option maxHeartbeats 4000000 in
theorem reason_3 (n k : Int) (w : World) (hk : k % 9 = 3) :
    Calls Try.prog 7 #[.int .i64 n, .int .i64 k] w fun e w' => e = .returned (.bool true) ∧ Below w.heap.size w w' := by
  obtain ⟨u, hu⟩ : ∃ u, u = (n % 1073741824).toNat := ⟨_, rfl⟩
  have CK := Lib.hid (fun W => flow_any n false false W)
  rw [← hu] at CK
  have CB := Lib.hid (show ∀ W z, Rd W (.slice (some z) 3 3) (nus .u8 [97, 98, 99]) → _ from fun W z (h : Rd W (.slice (some z) 3 3) (nus .u8 [97, 98, 99])) => fB8_any u false false 0 0 (some z) 3 3 [97, 98, 99] false false W h rfl (by intro e; cases e) (by decide) (by omega) (by omega) (by omega))
  have hlen : (fB8 u false false 0 [97, 98, 99] false false (List.replicate 0 0)).length = 57 := (fB8_told u false false 0 [97, 98, 99] false false (List.replicate 0 0) (by decide)).len
  have h0 := (fB8_told u false false 0 [97, 98, 99] false false (List.replicate 0 0) (by decide)).rr
  have hcut := fun q (hq : q < 57) => r_cut u q hq
  obtain ⟨x, y, s0, s1, s2, s3, SG, hF⟩ := fr7 u
  generalize fB8 u false false 0 [97, 98, 99] false false (List.replicate 0 0) = F at *
  have hlt := hF.lt
  obtain ⟨hx, hx24⟩ := x_lt hF
  have HXX := xor_0 x hx
  have hr : rr (F.set 14 101) = 3 := r_vers hF
  have hz := xor0_lt x hx
  generalize x ^^^ 2 ^ 0 = zx at *
  have hle : (F.set 14 101).length ≤ 65535 := by simp only [List.length_set]; omega
  have CR := Lib.hid (fun W z (h : Rd W z (nus .u8 (F.set 14 101))) => fread_any z (F.set 14 101) W h (lt_set _ 14 101 hlt (by omega)) (.inl hle))
  have CG := Lib.hid (fun W z (h : Rd W z (nus .u8 (F.set 14 101))) => fgood_any z (F.set 14 101) W h (lt_set _ 14 101 hlt (by omega)) hle)
  rw [hr] at CR
  rw [vw_no _ (by rw [hr]; omega)] at CR
  rw [gf_no _ (by rw [hr]; omega)] at CG
  have Q0 := fun W => eq_zero31 W
  have Y0 : Hid (v0.size = Array.size (#[Value.bool false, .int .i64 0, .int .i64 0, .int .i64 0, .int .u8 0, .bool false, .int .u8 0, .int .u8 0, .int .u8 0, .int .u8 0, .int .u8 0, .int .u8 0, .int .u8 0, .int .u8 0, .int .u8 0, .int .u8 0, .int .u8 0, .int .u8 0, .int .u8 0, .int .u8 0, .int .u8 0, .int .u8 0, .bool false, .int .u8 0, .int .u8 0, .int .u8 0, .int .u8 0, .int .u8 0, .int .u8 0, .int .u8 0, .int .u8 0, .int .u8 0, .int .u8 0, .int .u8 0, .int .u8 0, .int .u8 0, .int .u8 0, .int .u8 0, .int .u8 0, .int .u16 0, .int .u16 0, .int .u8 0] : Array Value)) := v0_size
  have Z0 := Lib.hid (i72.trans (congrArg some v0_size.symm))
  have A0 := Lib.hid v0_all
  rw [hlen] at CB
  have HFL := Lib.hid hlen
  have HX24 := Lib.hid hx24
  generalize flow u false false = kc at *
  clear hF hlt hlen h0 hcut hx24 hr hle hu hz
  have kcv := fun (w : World) (C : Array Value) (n c : Nat) => Lib.run_convert_bytes_const (P := Try.prog) w 22 5 C n c Try.underlying22 Try.underlying5
  have K := Lib.hid (Below.refl w.heap.size w)
  have HKK := Lib.hid hk
  clear hk
  go_enter Try.func7, Try.ntmps7
  go_wp2_with fail
  refine (CK.out _).mono ?_
  rintro e V1 ⟨rfl, hy⟩
  replace K := Lib.hid (K.out.trans (hy.mono K.out.size))
  clear hy
  have hal := (Below.refl V1.heap.size V1).alloc (Nat.le_refl _) (.cells #[Value.int .u8 97, .int .u8 98, .int .u8 99] 5 (3, 3 + 1))
  have RL0 := Lib.hid (show Rd (V1.alloc (.cells #[Value.int .u8 97, .int .u8 98, .int .u8 99] 5 (3, 3 + 1))) (.slice (some ⟨V1.heap.size, 0, none⟩) 3 3) (nus .u8 [97, 98, 99]) from rd_lit V1 .u8 5 [97, 98, 99] 3 (3, 4) rfl (by simp [maxLen]))
  go_wp2_with fail
  replace K := Lib.hid (K.out.trans (hal.mono K.out.size))
  clear hal kcv
  refine (CB.out _ _ RL0.out).mono ?_
  rintro e V2 ⟨gb, cb, rfl, ho, hy⟩
  have OW := Lib.hid (own_low K.out.size ho)
  replace K := Lib.hid (K.out.trans (hy.mono K.out.size))
  have hgb : w.heap.size ≤ gb := (OW.out.lt gb rfl).1
  have hcc : (57 : Int) ≤ (cb : Int) := by
    obtain ⟨_, _, e1, h1, -⟩ := Rd.own ho
    simp only [Value.slice.injEq] at e1
    obtain ⟨-, -, rfl⟩ := e1
    rw [nus_length, HFL.out] at h1
    omega
  clear ho hy RL0 CB CK
  go_wp2_with fail
  refine (round_any k 9 _ (by omega) (by omega)).mono ?_
  rintro e V3 ⟨rfl, rfl⟩
  rw [HKK.out]
  have c14x := OW.out.cellAt 14 (by omega)
  rw [nus_get _ _ _ (by have q := HFL.out; omega)] at c14x
  have f14x := OW.out.frozenAt 14
  generalize List.getD F 14 0 = y14x at c14x
  have hst0 := OW.out.stored 14 (.int .u8 ((101 : Nat) : Int))
  rw [nus_set] at hst0
  have hst0 : (V2.setCell ⟨gb, 14, none⟩ (.int .u8 101)).ownsRow w.heap.size 5 1 (.slice (some ⟨gb, 0, none⟩) 57 cb) 57 (nus .u8 (F.set 14 101)) ∧ V2.grownBy (V2.setCell ⟨gb, 14, none⟩ (.int .u8 101)) (some gb) := hst0
  have HST0 := Lib.hid hst0
  clear hst0
  go_upto_region 22 with fail
  have gr := HST0.out.2
  replace K := Lib.hid (K.out.grown gr K.out.size (fun k e => by cases e; exact hgb))
  have R := Lib.hid (Rd.own HST0.out.1)
  clear gr OW HST0 c14x f14x
  generalize (V2.setCell ⟨gb, 14, none⟩ (.int .u8 101)) = V4 at *
  go_wp2_with fail
  refine (CR.out _ _ R.out).mono ?_
  rintro e V5 ⟨rfl, hy⟩
  replace K := Lib.hid (K.out.trans (hy.mono K.out.size))
  replace R := Lib.hid (R.out.below hy)
  clear hy
  go_wp2_with (((with_reducible refine wpList_blk_store (op := ⟨none, .store 31 (.tmp 7) (.tmp 70), _, _, _, _⟩) ?sg6 31 (.tmp 7) (.tmp 70) ?so6 (V5.heap.size) v0 ?sx6 ?sy6 (Blk.new V5 31 #[Value.bool false, .int .i64 0, .int .i64 0, .int .i64 0, .int .u8 0, .bool false, .int .u8 0, .int .u8 0, .int .u8 0, .int .u8 0, .int .u8 0, .int .u8 0, .int .u8 0, .int .u8 0, .int .u8 0, .int .u8 0, .int .u8 0, .int .u8 0, .int .u8 0, .int .u8 0, .int .u8 0, .int .u8 0, .bool false, .int .u8 0, .int .u8 0, .int .u8 0, .int .u8 0, .int .u8 0, .int .u8 0, .int .u8 0, .int .u8 0, .int .u8 0, .int .u8 0, .int .u8 0, .int .u8 0, .int .u8 0, .int .u8 0, .int .u8 0, .int .u8 0, .int .u16 0, .int .u16 0, .int .u8 0]) Y0.out Z0.out A0.out ?_); (case sg6 => rfl); (case so6 => rfl); (case sx6 => rfl); (case sy6 => rfl)))
  intro V6 hA hF hB
  have hy := ((Below.refl V5.heap.size V5).alloc (Nat.le_refl _) (.cells #[Value.bool false, .int .i64 0, .int .i64 0, .int .i64 0, .int .u8 0, .bool false, .int .u8 0, .int .u8 0, .int .u8 0, .int .u8 0, .int .u8 0, .int .u8 0, .int .u8 0, .int .u8 0, .int .u8 0, .int .u8 0, .int .u8 0, .int .u8 0, .int .u8 0, .int .u8 0, .int .u8 0, .int .u8 0, .bool false, .int .u8 0, .int .u8 0, .int .u8 0, .int .u8 0, .int .u8 0, .int .u8 0, .int .u8 0, .int .u8 0, .int .u8 0, .int .u8 0, .int .u8 0, .int .u8 0, .int .u8 0, .int .u8 0, .int .u8 0, .int .u8 0, .int .u16 0, .int .u16 0, .int .u8 0] 31)).trans (hB _ (Nat.le_refl _))
  replace K := Lib.hid (K.out.trans (hy.mono K.out.size))
  replace R := Lib.hid (R.out.below hy)
  have HX := Lib.hid hA
  clear hA hF hB hy
  have L7 : (loadVar 31 ⟨V5.heap.size, 0, none⟩).run Try.prog V6 = .ok (.agg v0) V6 := run_blk_load (P := Try.prog) 31 (V5.heap.size) _ HX.out Try.underlying31 rfl Z0.out
  replace L7 := Lib.hid L7
  go_wp2_with (((with_reducible refine wpList_load_want (op := ⟨some 79, .load 31 (.tmp 7), _, _, _, _⟩) ?wg7 31 (.tmp 7) ?wo7 ⟨V5.heap.size, 0, none⟩ ?wx7 (.agg v0) L7.out ?_); (case wg7 => rfl); (case wo7 => rfl); (case wx7 => rfl)))
  clear L7
  refine (CG.out _ _ R.out).mono ?_
  rintro e V7 ⟨rfl, hy⟩
  replace K := Lib.hid (K.out.trans (hy.mono K.out.size))
  replace R := Lib.hid (R.out.below hy)
  replace HX := Lib.hid (HX.out.below hy HX.out.lt)
  clear hy
  go_wp2_with fail
  refine (awake_any _).mono ?_
  rintro e V8 ⟨rfl, hy⟩
  replace K := Lib.hid (K.out.trans (hy.mono K.out.size))
  replace R := Lib.hid (R.out.below hy)
  replace HX := Lib.hid (HX.out.below hy HX.out.lt)
  clear hy
  go_wp2
  go_ret
  exact ⟨rfl, K.out⟩

set_option maxRecDepth 100000 in
set_option maxHeartbeats 4000000 in
theorem reason_4 (n k : Int) (w : World) (hk : k % 9 = 4) :
    Calls Try.prog 7 #[.int .i64 n, .int .i64 k] w fun e w' => e = .returned (.bool true) ∧ Below w.heap.size w w' := by
  obtain ⟨u, hu⟩ : ∃ u, u = (n % 1073741824).toNat := ⟨_, rfl⟩
  have CK := Lib.hid (fun W => flow_any n false false W)
  rw [← hu] at CK
  have CB := Lib.hid (show ∀ W z, Rd W (.slice (some z) 3 3) (nus .u8 [97, 98, 99]) → _ from fun W z (h : Rd W (.slice (some z) 3 3) (nus .u8 [97, 98, 99])) => fB8_any u false false 0 0 (some z) 3 3 [97, 98, 99] false false W h rfl (by intro e; cases e) (by decide) (by omega) (by omega) (by omega))
  have hlen : (fB8 u false false 0 [97, 98, 99] false false (List.replicate 0 0)).length = 57 := (fB8_told u false false 0 [97, 98, 99] false false (List.replicate 0 0) (by decide)).len
  have h0 := (fB8_told u false false 0 [97, 98, 99] false false (List.replicate 0 0) (by decide)).rr
  have hcut := fun q (hq : q < 57) => r_cut u q hq
  obtain ⟨x, y, s0, s1, s2, s3, SG, hF⟩ := fr7 u
  generalize fB8 u false false 0 [97, 98, 99] false false (List.replicate 0 0) = F at *
  have hlt := hF.lt
  obtain ⟨hx, hx24⟩ := x_lt hF
  have HXX := xor_0 x hx
  have hr : rr (F.set 24 (x ^^^ 2 ^ 0)) = 4 := r_sum hF
  have hz := xor0_lt x hx
  generalize x ^^^ 2 ^ 0 = zx at *
  have hle : (F.set 24 zx).length ≤ 65535 := by simp only [List.length_set]; omega
  have CR := Lib.hid (fun W z (h : Rd W z (nus .u8 (F.set 24 zx))) => fread_any z (F.set 24 zx) W h (lt_set _ 24 zx hlt (by omega)) (.inl hle))
  have CG := Lib.hid (fun W z (h : Rd W z (nus .u8 (F.set 24 zx))) => fgood_any z (F.set 24 zx) W h (lt_set _ 24 zx hlt (by omega)) hle)
  rw [hr] at CR
  rw [vw_no _ (by rw [hr]; omega)] at CR
  rw [gf_no _ (by rw [hr]; omega)] at CG
  have Q0 := fun W => eq_zero31 W
  have Y0 : Hid (v0.size = Array.size (#[Value.bool false, .int .i64 0, .int .i64 0, .int .i64 0, .int .u8 0, .bool false, .int .u8 0, .int .u8 0, .int .u8 0, .int .u8 0, .int .u8 0, .int .u8 0, .int .u8 0, .int .u8 0, .int .u8 0, .int .u8 0, .int .u8 0, .int .u8 0, .int .u8 0, .int .u8 0, .int .u8 0, .int .u8 0, .bool false, .int .u8 0, .int .u8 0, .int .u8 0, .int .u8 0, .int .u8 0, .int .u8 0, .int .u8 0, .int .u8 0, .int .u8 0, .int .u8 0, .int .u8 0, .int .u8 0, .int .u8 0, .int .u8 0, .int .u8 0, .int .u8 0, .int .u16 0, .int .u16 0, .int .u8 0] : Array Value)) := v0_size
  have Z0 := Lib.hid (i72.trans (congrArg some v0_size.symm))
  have A0 := Lib.hid v0_all
  rw [hlen] at CB
  have HFL := Lib.hid hlen
  have HX24 := Lib.hid hx24
  generalize flow u false false = kc at *
  clear hF hlt hlen h0 hcut hx24 hr hle hu hz
  have kcv := fun (w : World) (C : Array Value) (n c : Nat) => Lib.run_convert_bytes_const (P := Try.prog) w 22 5 C n c Try.underlying22 Try.underlying5
  have K := Lib.hid (Below.refl w.heap.size w)
  have HKK := Lib.hid hk
  clear hk
  go_enter Try.func7, Try.ntmps7
  go_wp2_with fail
  refine (CK.out _).mono ?_
  rintro e V1 ⟨rfl, hy⟩
  replace K := Lib.hid (K.out.trans (hy.mono K.out.size))
  clear hy
  have hal := (Below.refl V1.heap.size V1).alloc (Nat.le_refl _) (.cells #[Value.int .u8 97, .int .u8 98, .int .u8 99] 5 (3, 3 + 1))
  have RL0 := Lib.hid (show Rd (V1.alloc (.cells #[Value.int .u8 97, .int .u8 98, .int .u8 99] 5 (3, 3 + 1))) (.slice (some ⟨V1.heap.size, 0, none⟩) 3 3) (nus .u8 [97, 98, 99]) from rd_lit V1 .u8 5 [97, 98, 99] 3 (3, 4) rfl (by simp [maxLen]))
  go_wp2_with fail
  replace K := Lib.hid (K.out.trans (hal.mono K.out.size))
  clear hal kcv
  refine (CB.out _ _ RL0.out).mono ?_
  rintro e V2 ⟨gb, cb, rfl, ho, hy⟩
  have OW := Lib.hid (own_low K.out.size ho)
  replace K := Lib.hid (K.out.trans (hy.mono K.out.size))
  have hgb : w.heap.size ≤ gb := (OW.out.lt gb rfl).1
  have hcc : (57 : Int) ≤ (cb : Int) := by
    obtain ⟨_, _, e1, h1, -⟩ := Rd.own ho
    simp only [Value.slice.injEq] at e1
    obtain ⟨-, -, rfl⟩ := e1
    rw [nus_length, HFL.out] at h1
    omega
  clear ho hy RL0 CB CK
  go_wp2_with fail
  refine (round_any k 9 _ (by omega) (by omega)).mono ?_
  rintro e V3 ⟨rfl, rfl⟩
  rw [HKK.out]
  have c24x := OW.out.cellAt 24 (by omega)
  rw [nus_get _ _ _ (by have q := HFL.out; omega)] at c24x
  have f24x := OW.out.frozenAt 24
  rw [HX24.out] at c24x
  have hst0 := OW.out.stored 24 (.int .u8 ((zx : Nat) : Int))
  rw [nus_set] at hst0
  have hst0 : (V2.setCell ⟨gb, 24, none⟩ (.int .u8 (zx : Int))).ownsRow w.heap.size 5 1 (.slice (some ⟨gb, 0, none⟩) 57 cb) 57 (nus .u8 (F.set 24 zx)) ∧ V2.grownBy (V2.setCell ⟨gb, 24, none⟩ (.int .u8 (zx : Int))) (some gb) := hst0
  have HST0 := Lib.hid hst0
  clear hst0
  go_upto_region 22 with fail
  have gr := HST0.out.2
  replace K := Lib.hid (K.out.grown gr K.out.size (fun k e => by cases e; exact hgb))
  have R := Lib.hid (Rd.own HST0.out.1)
  clear gr OW HST0 c24x f24x
  generalize (V2.setCell ⟨gb, 24, none⟩ (.int .u8 (zx : Int))) = V4 at *
  go_wp2_with fail
  refine (CR.out _ _ R.out).mono ?_
  rintro e V5 ⟨rfl, hy⟩
  replace K := Lib.hid (K.out.trans (hy.mono K.out.size))
  replace R := Lib.hid (R.out.below hy)
  clear hy
  go_wp2_with (((with_reducible refine wpList_blk_store (op := ⟨none, .store 31 (.tmp 7) (.tmp 70), _, _, _, _⟩) ?sg8 31 (.tmp 7) (.tmp 70) ?so8 (V5.heap.size) v0 ?sx8 ?sy8 (Blk.new V5 31 #[Value.bool false, .int .i64 0, .int .i64 0, .int .i64 0, .int .u8 0, .bool false, .int .u8 0, .int .u8 0, .int .u8 0, .int .u8 0, .int .u8 0, .int .u8 0, .int .u8 0, .int .u8 0, .int .u8 0, .int .u8 0, .int .u8 0, .int .u8 0, .int .u8 0, .int .u8 0, .int .u8 0, .int .u8 0, .bool false, .int .u8 0, .int .u8 0, .int .u8 0, .int .u8 0, .int .u8 0, .int .u8 0, .int .u8 0, .int .u8 0, .int .u8 0, .int .u8 0, .int .u8 0, .int .u8 0, .int .u8 0, .int .u8 0, .int .u8 0, .int .u8 0, .int .u16 0, .int .u16 0, .int .u8 0]) Y0.out Z0.out A0.out ?_); (case sg8 => rfl); (case so8 => rfl); (case sx8 => rfl); (case sy8 => rfl)))
  intro V6 hA hF hB
  have hy := ((Below.refl V5.heap.size V5).alloc (Nat.le_refl _) (.cells #[Value.bool false, .int .i64 0, .int .i64 0, .int .i64 0, .int .u8 0, .bool false, .int .u8 0, .int .u8 0, .int .u8 0, .int .u8 0, .int .u8 0, .int .u8 0, .int .u8 0, .int .u8 0, .int .u8 0, .int .u8 0, .int .u8 0, .int .u8 0, .int .u8 0, .int .u8 0, .int .u8 0, .int .u8 0, .bool false, .int .u8 0, .int .u8 0, .int .u8 0, .int .u8 0, .int .u8 0, .int .u8 0, .int .u8 0, .int .u8 0, .int .u8 0, .int .u8 0, .int .u8 0, .int .u8 0, .int .u8 0, .int .u8 0, .int .u8 0, .int .u8 0, .int .u16 0, .int .u16 0, .int .u8 0] 31)).trans (hB _ (Nat.le_refl _))
  replace K := Lib.hid (K.out.trans (hy.mono K.out.size))
  replace R := Lib.hid (R.out.below hy)
  have HX := Lib.hid hA
  clear hA hF hB hy
  have L9 : (loadVar 31 ⟨V5.heap.size, 0, none⟩).run Try.prog V6 = .ok (.agg v0) V6 := run_blk_load (P := Try.prog) 31 (V5.heap.size) _ HX.out Try.underlying31 rfl Z0.out
  replace L9 := Lib.hid L9
  go_wp2_with (((with_reducible refine wpList_load_want (op := ⟨some 79, .load 31 (.tmp 7), _, _, _, _⟩) ?wg9 31 (.tmp 7) ?wo9 ⟨V5.heap.size, 0, none⟩ ?wx9 (.agg v0) L9.out ?_); (case wg9 => rfl); (case wo9 => rfl); (case wx9 => rfl)))
  clear L9
  refine (CG.out _ _ R.out).mono ?_
  rintro e V7 ⟨rfl, hy⟩
  replace K := Lib.hid (K.out.trans (hy.mono K.out.size))
  replace R := Lib.hid (R.out.below hy)
  replace HX := Lib.hid (HX.out.below hy HX.out.lt)
  clear hy
  go_wp2_with fail
  refine (awake_any _).mono ?_
  rintro e V8 ⟨rfl, hy⟩
  replace K := Lib.hid (K.out.trans (hy.mono K.out.size))
  replace R := Lib.hid (R.out.below hy)
  replace HX := Lib.hid (HX.out.below hy HX.out.lt)
  clear hy
  go_wp2
  go_ret
  exact ⟨rfl, K.out⟩

set_option maxRecDepth 100000 in
set_option maxHeartbeats 4000000 in
theorem reason_5 (n k : Int) (w : World) (hk : k % 9 = 5) :
    Calls Try.prog 7 #[.int .i64 n, .int .i64 k] w fun e w' => e = .returned (.bool true) ∧ Below w.heap.size w w' := by
  obtain ⟨u, hu⟩ : ∃ u, u = (n % 1073741824).toNat := ⟨_, rfl⟩
  have CK := Lib.hid (fun W => flow_any n false false W)
  rw [← hu] at CK
  have CB := Lib.hid (show ∀ W z, Rd W (.slice (some z) 3 3) (nus .u8 [97, 98, 99]) → _ from fun W z (h : Rd W (.slice (some z) 3 3) (nus .u8 [97, 98, 99])) => fB8_any u false false 0 0 (some z) 3 3 [97, 98, 99] false false W h rfl (by intro e; cases e) (by decide) (by omega) (by omega) (by omega))
  have hlen : (fB8 u false false 0 [97, 98, 99] false false (List.replicate 0 0)).length = 57 := (fB8_told u false false 0 [97, 98, 99] false false (List.replicate 0 0) (by decide)).len
  have h0 := (fB8_told u false false 0 [97, 98, 99] false false (List.replicate 0 0) (by decide)).rr
  have hcut := fun q (hq : q < 57) => r_cut u q hq
  obtain ⟨x, y, s0, s1, s2, s3, SG, hF⟩ := fr7 u
  generalize fB8 u false false 0 [97, 98, 99] false false (List.replicate 0 0) = F at *
  have hlt := hF.lt
  obtain ⟨hx, hx24⟩ := x_lt hF
  have HXX := xor_0 x hx
  have hr : rr (F.set 46 64) = 3 := r_seg hF
  have hz := xor0_lt x hx
  generalize x ^^^ 2 ^ 0 = zx at *
  have hle : (F.set 46 64).length ≤ 65535 := by simp only [List.length_set]; omega
  have CR := Lib.hid (fun W z (h : Rd W z (nus .u8 (F.set 46 64))) => fread_any z (F.set 46 64) W h (lt_set _ 46 64 hlt (by omega)) (.inl hle))
  have CG := Lib.hid (fun W z (h : Rd W z (nus .u8 (F.set 46 64))) => fgood_any z (F.set 46 64) W h (lt_set _ 46 64 hlt (by omega)) hle)
  rw [hr] at CR
  rw [vw_no _ (by rw [hr]; omega)] at CR
  rw [gf_no _ (by rw [hr]; omega)] at CG
  have Q0 := fun W => eq_zero31 W
  have Y0 : Hid (v0.size = Array.size (#[Value.bool false, .int .i64 0, .int .i64 0, .int .i64 0, .int .u8 0, .bool false, .int .u8 0, .int .u8 0, .int .u8 0, .int .u8 0, .int .u8 0, .int .u8 0, .int .u8 0, .int .u8 0, .int .u8 0, .int .u8 0, .int .u8 0, .int .u8 0, .int .u8 0, .int .u8 0, .int .u8 0, .int .u8 0, .bool false, .int .u8 0, .int .u8 0, .int .u8 0, .int .u8 0, .int .u8 0, .int .u8 0, .int .u8 0, .int .u8 0, .int .u8 0, .int .u8 0, .int .u8 0, .int .u8 0, .int .u8 0, .int .u8 0, .int .u8 0, .int .u8 0, .int .u16 0, .int .u16 0, .int .u8 0] : Array Value)) := v0_size
  have Z0 := Lib.hid (i72.trans (congrArg some v0_size.symm))
  have A0 := Lib.hid v0_all
  rw [hlen] at CB
  have HFL := Lib.hid hlen
  have HX24 := Lib.hid hx24
  generalize flow u false false = kc at *
  clear hF hlt hlen h0 hcut hx24 hr hle hu hz
  have kcv := fun (w : World) (C : Array Value) (n c : Nat) => Lib.run_convert_bytes_const (P := Try.prog) w 22 5 C n c Try.underlying22 Try.underlying5
  have K := Lib.hid (Below.refl w.heap.size w)
  have HKK := Lib.hid hk
  clear hk
  go_enter Try.func7, Try.ntmps7
  go_wp2_with fail
  refine (CK.out _).mono ?_
  rintro e V1 ⟨rfl, hy⟩
  replace K := Lib.hid (K.out.trans (hy.mono K.out.size))
  clear hy
  have hal := (Below.refl V1.heap.size V1).alloc (Nat.le_refl _) (.cells #[Value.int .u8 97, .int .u8 98, .int .u8 99] 5 (3, 3 + 1))
  have RL0 := Lib.hid (show Rd (V1.alloc (.cells #[Value.int .u8 97, .int .u8 98, .int .u8 99] 5 (3, 3 + 1))) (.slice (some ⟨V1.heap.size, 0, none⟩) 3 3) (nus .u8 [97, 98, 99]) from rd_lit V1 .u8 5 [97, 98, 99] 3 (3, 4) rfl (by simp [maxLen]))
  go_wp2_with fail
  replace K := Lib.hid (K.out.trans (hal.mono K.out.size))
  clear hal kcv
  refine (CB.out _ _ RL0.out).mono ?_
  rintro e V2 ⟨gb, cb, rfl, ho, hy⟩
  have OW := Lib.hid (own_low K.out.size ho)
  replace K := Lib.hid (K.out.trans (hy.mono K.out.size))
  have hgb : w.heap.size ≤ gb := (OW.out.lt gb rfl).1
  have hcc : (57 : Int) ≤ (cb : Int) := by
    obtain ⟨_, _, e1, h1, -⟩ := Rd.own ho
    simp only [Value.slice.injEq] at e1
    obtain ⟨-, -, rfl⟩ := e1
    rw [nus_length, HFL.out] at h1
    omega
  clear ho hy RL0 CB CK
  go_wp2_with fail
  refine (round_any k 9 _ (by omega) (by omega)).mono ?_
  rintro e V3 ⟨rfl, rfl⟩
  rw [HKK.out]
  have c46x := OW.out.cellAt 46 (by omega)
  rw [nus_get _ _ _ (by have q := HFL.out; omega)] at c46x
  have f46x := OW.out.frozenAt 46
  generalize List.getD F 46 0 = y46x at c46x
  have hst0 := OW.out.stored 46 (.int .u8 ((64 : Nat) : Int))
  rw [nus_set] at hst0
  have hst0 : (V2.setCell ⟨gb, 46, none⟩ (.int .u8 64)).ownsRow w.heap.size 5 1 (.slice (some ⟨gb, 0, none⟩) 57 cb) 57 (nus .u8 (F.set 46 64)) ∧ V2.grownBy (V2.setCell ⟨gb, 46, none⟩ (.int .u8 64)) (some gb) := hst0
  have HST0 := Lib.hid hst0
  clear hst0
  go_upto_region 22 with fail
  have gr := HST0.out.2
  replace K := Lib.hid (K.out.grown gr K.out.size (fun k e => by cases e; exact hgb))
  have R := Lib.hid (Rd.own HST0.out.1)
  clear gr OW HST0 c46x f46x
  generalize (V2.setCell ⟨gb, 46, none⟩ (.int .u8 64)) = V4 at *
  go_wp2_with fail
  refine (CR.out _ _ R.out).mono ?_
  rintro e V5 ⟨rfl, hy⟩
  replace K := Lib.hid (K.out.trans (hy.mono K.out.size))
  replace R := Lib.hid (R.out.below hy)
  clear hy
  go_wp2_with (((with_reducible refine wpList_blk_store (op := ⟨none, .store 31 (.tmp 7) (.tmp 70), _, _, _, _⟩) ?sg10 31 (.tmp 7) (.tmp 70) ?so10 (V5.heap.size) v0 ?sx10 ?sy10 (Blk.new V5 31 #[Value.bool false, .int .i64 0, .int .i64 0, .int .i64 0, .int .u8 0, .bool false, .int .u8 0, .int .u8 0, .int .u8 0, .int .u8 0, .int .u8 0, .int .u8 0, .int .u8 0, .int .u8 0, .int .u8 0, .int .u8 0, .int .u8 0, .int .u8 0, .int .u8 0, .int .u8 0, .int .u8 0, .int .u8 0, .bool false, .int .u8 0, .int .u8 0, .int .u8 0, .int .u8 0, .int .u8 0, .int .u8 0, .int .u8 0, .int .u8 0, .int .u8 0, .int .u8 0, .int .u8 0, .int .u8 0, .int .u8 0, .int .u8 0, .int .u8 0, .int .u8 0, .int .u16 0, .int .u16 0, .int .u8 0]) Y0.out Z0.out A0.out ?_); (case sg10 => rfl); (case so10 => rfl); (case sx10 => rfl); (case sy10 => rfl)))
  intro V6 hA hF hB
  have hy := ((Below.refl V5.heap.size V5).alloc (Nat.le_refl _) (.cells #[Value.bool false, .int .i64 0, .int .i64 0, .int .i64 0, .int .u8 0, .bool false, .int .u8 0, .int .u8 0, .int .u8 0, .int .u8 0, .int .u8 0, .int .u8 0, .int .u8 0, .int .u8 0, .int .u8 0, .int .u8 0, .int .u8 0, .int .u8 0, .int .u8 0, .int .u8 0, .int .u8 0, .int .u8 0, .bool false, .int .u8 0, .int .u8 0, .int .u8 0, .int .u8 0, .int .u8 0, .int .u8 0, .int .u8 0, .int .u8 0, .int .u8 0, .int .u8 0, .int .u8 0, .int .u8 0, .int .u8 0, .int .u8 0, .int .u8 0, .int .u8 0, .int .u16 0, .int .u16 0, .int .u8 0] 31)).trans (hB _ (Nat.le_refl _))
  replace K := Lib.hid (K.out.trans (hy.mono K.out.size))
  replace R := Lib.hid (R.out.below hy)
  have HX := Lib.hid hA
  clear hA hF hB hy
  have L11 : (loadVar 31 ⟨V5.heap.size, 0, none⟩).run Try.prog V6 = .ok (.agg v0) V6 := run_blk_load (P := Try.prog) 31 (V5.heap.size) _ HX.out Try.underlying31 rfl Z0.out
  replace L11 := Lib.hid L11
  go_wp2_with (((with_reducible refine wpList_load_want (op := ⟨some 79, .load 31 (.tmp 7), _, _, _, _⟩) ?wg11 31 (.tmp 7) ?wo11 ⟨V5.heap.size, 0, none⟩ ?wx11 (.agg v0) L11.out ?_); (case wg11 => rfl); (case wo11 => rfl); (case wx11 => rfl)))
  clear L11
  refine (CG.out _ _ R.out).mono ?_
  rintro e V7 ⟨rfl, hy⟩
  replace K := Lib.hid (K.out.trans (hy.mono K.out.size))
  replace R := Lib.hid (R.out.below hy)
  replace HX := Lib.hid (HX.out.below hy HX.out.lt)
  clear hy
  go_wp2_with fail
  refine (awake_any _).mono ?_
  rintro e V8 ⟨rfl, hy⟩
  replace K := Lib.hid (K.out.trans (hy.mono K.out.size))
  replace R := Lib.hid (R.out.below hy)
  replace HX := Lib.hid (HX.out.below hy HX.out.lt)
  clear hy
  go_wp2
  go_ret
  exact ⟨rfl, K.out⟩

set_option maxRecDepth 100000 in
set_option maxHeartbeats 4000000 in
theorem reason_6 (n k : Int) (w : World) (hk : k % 9 = 6) :
    Calls Try.prog 7 #[.int .i64 n, .int .i64 k] w fun e w' => e = .returned (.bool true) ∧ Below w.heap.size w w' := by
  obtain ⟨u, hu⟩ : ∃ u, u = (n % 1073741824).toNat := ⟨_, rfl⟩
  have CK := Lib.hid (fun W => flow_any n false false W)
  rw [← hu] at CK
  have CB := Lib.hid (show ∀ W z, Rd W (.slice (some z) 3 3) (nus .u8 [97, 98, 99]) → _ from fun W z (h : Rd W (.slice (some z) 3 3) (nus .u8 [97, 98, 99])) => fB8_any u false false 0 0 (some z) 3 3 [97, 98, 99] false false W h rfl (by intro e; cases e) (by decide) (by omega) (by omega) (by omega))
  have hlen : (fB8 u false false 0 [97, 98, 99] false false (List.replicate 0 0)).length = 57 := (fB8_told u false false 0 [97, 98, 99] false false (List.replicate 0 0) (by decide)).len
  have h0 := (fB8_told u false false 0 [97, 98, 99] false false (List.replicate 0 0) (by decide)).rr
  have hcut := fun q (hq : q < 57) => r_cut u q hq
  obtain ⟨x, y, s0, s1, s2, s3, SG, hF⟩ := fr7 u
  generalize fB8 u false false 0 [97, 98, 99] false false (List.replicate 0 0) = F at *
  have hlt := hF.lt
  obtain ⟨hx, hx24⟩ := x_lt hF
  have HXX := xor_0 x hx
  have hr : rr (F.take 40) = 1 := hcut 40 (by omega)
  have hz := xor0_lt x hx
  generalize x ^^^ 2 ^ 0 = zx at *
  have hle : (F.take 40).length ≤ 65535 := by rw [List.length_take]; omega
  have CR := Lib.hid (fun W z (h : Rd W z (nus .u8 (F.take 40))) => fread_any z (F.take 40) W h (fun c hc => hlt c (List.mem_of_mem_take hc)) (.inl hle))
  have CG := Lib.hid (fun W z (h : Rd W z (nus .u8 (F.take 40))) => fgood_any z (F.take 40) W h (fun c hc => hlt c (List.mem_of_mem_take hc)) hle)
  rw [hr] at CR
  rw [vw_no _ (by rw [hr]; omega)] at CR
  rw [gf_no _ (by rw [hr]; omega)] at CG
  have Q0 := fun W => eq_zero31 W
  have Y0 : Hid (v0.size = Array.size (#[Value.bool false, .int .i64 0, .int .i64 0, .int .i64 0, .int .u8 0, .bool false, .int .u8 0, .int .u8 0, .int .u8 0, .int .u8 0, .int .u8 0, .int .u8 0, .int .u8 0, .int .u8 0, .int .u8 0, .int .u8 0, .int .u8 0, .int .u8 0, .int .u8 0, .int .u8 0, .int .u8 0, .int .u8 0, .bool false, .int .u8 0, .int .u8 0, .int .u8 0, .int .u8 0, .int .u8 0, .int .u8 0, .int .u8 0, .int .u8 0, .int .u8 0, .int .u8 0, .int .u8 0, .int .u8 0, .int .u8 0, .int .u8 0, .int .u8 0, .int .u8 0, .int .u16 0, .int .u16 0, .int .u8 0] : Array Value)) := v0_size
  have Z0 := Lib.hid (i72.trans (congrArg some v0_size.symm))
  have A0 := Lib.hid v0_all
  rw [hlen] at CB
  have HFL := Lib.hid hlen
  have HX24 := Lib.hid hx24
  generalize flow u false false = kc at *
  clear hF hlt hlen h0 hcut hx24 hr hle hu hz
  have kcv := fun (w : World) (C : Array Value) (n c : Nat) => Lib.run_convert_bytes_const (P := Try.prog) w 22 5 C n c Try.underlying22 Try.underlying5
  have K := Lib.hid (Below.refl w.heap.size w)
  have HKK := Lib.hid hk
  clear hk
  go_enter Try.func7, Try.ntmps7
  go_wp2_with fail
  refine (CK.out _).mono ?_
  rintro e V1 ⟨rfl, hy⟩
  replace K := Lib.hid (K.out.trans (hy.mono K.out.size))
  clear hy
  have hal := (Below.refl V1.heap.size V1).alloc (Nat.le_refl _) (.cells #[Value.int .u8 97, .int .u8 98, .int .u8 99] 5 (3, 3 + 1))
  have RL0 := Lib.hid (show Rd (V1.alloc (.cells #[Value.int .u8 97, .int .u8 98, .int .u8 99] 5 (3, 3 + 1))) (.slice (some ⟨V1.heap.size, 0, none⟩) 3 3) (nus .u8 [97, 98, 99]) from rd_lit V1 .u8 5 [97, 98, 99] 3 (3, 4) rfl (by simp [maxLen]))
  go_wp2_with fail
  replace K := Lib.hid (K.out.trans (hal.mono K.out.size))
  clear hal kcv
  refine (CB.out _ _ RL0.out).mono ?_
  rintro e V2 ⟨gb, cb, rfl, ho, hy⟩
  have OW := Lib.hid (own_low K.out.size ho)
  replace K := Lib.hid (K.out.trans (hy.mono K.out.size))
  have hgb : w.heap.size ≤ gb := (OW.out.lt gb rfl).1
  have hcc : (57 : Int) ≤ (cb : Int) := by
    obtain ⟨_, _, e1, h1, -⟩ := Rd.own ho
    simp only [Value.slice.injEq] at e1
    obtain ⟨-, -, rfl⟩ := e1
    rw [nus_length, HFL.out] at h1
    omega
  clear ho hy RL0 CB CK
  go_wp2_with fail
  refine (round_any k 9 _ (by omega) (by omega)).mono ?_
  rintro e V3 ⟨rfl, rfl⟩
  rw [HKK.out]
  have R := Lib.hid ((Rd.own OW.out).front 40 (by rw [HFL.out]; omega))
  have hc2 : (40 : Int) ≤ (cb : Int) := by omega
  go_wp2_with fail
  refine (CR.out _ _ R.out).mono ?_
  rintro e V4 ⟨rfl, hy⟩
  replace K := Lib.hid (K.out.trans (hy.mono K.out.size))
  replace R := Lib.hid (R.out.below hy)
  clear hy
  go_wp2_with (((with_reducible refine wpList_blk_store (op := ⟨none, .store 31 (.tmp 7) (.tmp 70), _, _, _, _⟩) ?sg12 31 (.tmp 7) (.tmp 70) ?so12 (V4.heap.size) v0 ?sx12 ?sy12 (Blk.new V4 31 #[Value.bool false, .int .i64 0, .int .i64 0, .int .i64 0, .int .u8 0, .bool false, .int .u8 0, .int .u8 0, .int .u8 0, .int .u8 0, .int .u8 0, .int .u8 0, .int .u8 0, .int .u8 0, .int .u8 0, .int .u8 0, .int .u8 0, .int .u8 0, .int .u8 0, .int .u8 0, .int .u8 0, .int .u8 0, .bool false, .int .u8 0, .int .u8 0, .int .u8 0, .int .u8 0, .int .u8 0, .int .u8 0, .int .u8 0, .int .u8 0, .int .u8 0, .int .u8 0, .int .u8 0, .int .u8 0, .int .u8 0, .int .u8 0, .int .u8 0, .int .u8 0, .int .u16 0, .int .u16 0, .int .u8 0]) Y0.out Z0.out A0.out ?_); (case sg12 => rfl); (case so12 => rfl); (case sx12 => rfl); (case sy12 => rfl)))
  intro V5 hA hF hB
  have hy := ((Below.refl V4.heap.size V4).alloc (Nat.le_refl _) (.cells #[Value.bool false, .int .i64 0, .int .i64 0, .int .i64 0, .int .u8 0, .bool false, .int .u8 0, .int .u8 0, .int .u8 0, .int .u8 0, .int .u8 0, .int .u8 0, .int .u8 0, .int .u8 0, .int .u8 0, .int .u8 0, .int .u8 0, .int .u8 0, .int .u8 0, .int .u8 0, .int .u8 0, .int .u8 0, .bool false, .int .u8 0, .int .u8 0, .int .u8 0, .int .u8 0, .int .u8 0, .int .u8 0, .int .u8 0, .int .u8 0, .int .u8 0, .int .u8 0, .int .u8 0, .int .u8 0, .int .u8 0, .int .u8 0, .int .u8 0, .int .u8 0, .int .u16 0, .int .u16 0, .int .u8 0] 31)).trans (hB _ (Nat.le_refl _))
  replace K := Lib.hid (K.out.trans (hy.mono K.out.size))
  replace R := Lib.hid (R.out.below hy)
  have HX := Lib.hid hA
  clear hA hF hB hy
  have L13 : (loadVar 31 ⟨V4.heap.size, 0, none⟩).run Try.prog V5 = .ok (.agg v0) V5 := run_blk_load (P := Try.prog) 31 (V4.heap.size) _ HX.out Try.underlying31 rfl Z0.out
  replace L13 := Lib.hid L13
  go_wp2_with (((with_reducible refine wpList_load_want (op := ⟨some 79, .load 31 (.tmp 7), _, _, _, _⟩) ?wg13 31 (.tmp 7) ?wo13 ⟨V4.heap.size, 0, none⟩ ?wx13 (.agg v0) L13.out ?_); (case wg13 => rfl); (case wo13 => rfl); (case wx13 => rfl)))
  clear L13
  refine (CG.out _ _ R.out).mono ?_
  rintro e V6 ⟨rfl, hy⟩
  replace K := Lib.hid (K.out.trans (hy.mono K.out.size))
  replace R := Lib.hid (R.out.below hy)
  replace HX := Lib.hid (HX.out.below hy HX.out.lt)
  clear hy
  go_wp2_with fail
  refine (awake_any _).mono ?_
  rintro e V7 ⟨rfl, hy⟩
  replace K := Lib.hid (K.out.trans (hy.mono K.out.size))
  replace R := Lib.hid (R.out.below hy)
  replace HX := Lib.hid (HX.out.below hy HX.out.lt)
  clear hy
  go_wp2
  go_ret
  exact ⟨rfl, K.out⟩

set_option maxRecDepth 100000 in
set_option maxHeartbeats 4000000 in
theorem reason_7 (n k : Int) (w : World) (hk : k % 9 = 7) :
    Calls Try.prog 7 #[.int .i64 n, .int .i64 k] w fun e w' => e = .returned (.bool true) ∧ Below w.heap.size w w' := by
  obtain ⟨u, hu⟩ : ∃ u, u = (n % 1073741824).toNat := ⟨_, rfl⟩
  have CK := Lib.hid (fun W => flow_any n false false W)
  rw [← hu] at CK
  have CB := Lib.hid (show ∀ W z, Rd W (.slice (some z) 3 3) (nus .u8 [97, 98, 99]) → _ from fun W z (h : Rd W (.slice (some z) 3 3) (nus .u8 [97, 98, 99])) => fB8_any u false false 0 0 (some z) 3 3 [97, 98, 99] false false W h rfl (by intro e; cases e) (by decide) (by omega) (by omega) (by omega))
  have hlen : (fB8 u false false 0 [97, 98, 99] false false (List.replicate 0 0)).length = 57 := (fB8_told u false false 0 [97, 98, 99] false false (List.replicate 0 0) (by decide)).len
  have h0 := (fB8_told u false false 0 [97, 98, 99] false false (List.replicate 0 0) (by decide)).rr
  have hcut := fun q (hq : q < 57) => r_cut u q hq
  obtain ⟨x, y, s0, s1, s2, s3, SG, hF⟩ := fr7 u
  generalize fB8 u false false 0 [97, 98, 99] false false (List.replicate 0 0) = F at *
  have hlt := hF.lt
  obtain ⟨hx, hx24⟩ := x_lt hF
  have HXX := xor_0 x hx
  have hr : rr ((F.set 24 (x ^^^ 2 ^ 0)).set 46 64) = 4 := r_both hF
  have hz := xor0_lt x hx
  generalize x ^^^ 2 ^ 0 = zx at *
  have hle : ((F.set 24 zx).set 46 64).length ≤ 65535 := by simp only [List.length_set]; omega
  have CR := Lib.hid (fun W z (h : Rd W z (nus .u8 ((F.set 24 zx).set 46 64))) => fread_any z ((F.set 24 zx).set 46 64) W h (lt_set _ 46 64 (lt_set _ 24 zx hlt (by omega)) (by omega)) (.inl hle))
  have CG := Lib.hid (fun W z (h : Rd W z (nus .u8 ((F.set 24 zx).set 46 64))) => fgood_any z ((F.set 24 zx).set 46 64) W h (lt_set _ 46 64 (lt_set _ 24 zx hlt (by omega)) (by omega)) hle)
  rw [hr] at CR
  rw [vw_no _ (by rw [hr]; omega)] at CR
  rw [gf_no _ (by rw [hr]; omega)] at CG
  have Q0 := fun W => eq_zero31 W
  have Y0 : Hid (v0.size = Array.size (#[Value.bool false, .int .i64 0, .int .i64 0, .int .i64 0, .int .u8 0, .bool false, .int .u8 0, .int .u8 0, .int .u8 0, .int .u8 0, .int .u8 0, .int .u8 0, .int .u8 0, .int .u8 0, .int .u8 0, .int .u8 0, .int .u8 0, .int .u8 0, .int .u8 0, .int .u8 0, .int .u8 0, .int .u8 0, .bool false, .int .u8 0, .int .u8 0, .int .u8 0, .int .u8 0, .int .u8 0, .int .u8 0, .int .u8 0, .int .u8 0, .int .u8 0, .int .u8 0, .int .u8 0, .int .u8 0, .int .u8 0, .int .u8 0, .int .u8 0, .int .u8 0, .int .u16 0, .int .u16 0, .int .u8 0] : Array Value)) := v0_size
  have Z0 := Lib.hid (i72.trans (congrArg some v0_size.symm))
  have A0 := Lib.hid v0_all
  rw [hlen] at CB
  have HFL := Lib.hid hlen
  have HX24 := Lib.hid hx24
  generalize flow u false false = kc at *
  clear hF hlt hlen h0 hcut hx24 hr hle hu hz
  have kcv := fun (w : World) (C : Array Value) (n c : Nat) => Lib.run_convert_bytes_const (P := Try.prog) w 22 5 C n c Try.underlying22 Try.underlying5
  have K := Lib.hid (Below.refl w.heap.size w)
  have HKK := Lib.hid hk
  clear hk
  go_enter Try.func7, Try.ntmps7
  go_wp2_with fail
  refine (CK.out _).mono ?_
  rintro e V1 ⟨rfl, hy⟩
  replace K := Lib.hid (K.out.trans (hy.mono K.out.size))
  clear hy
  have hal := (Below.refl V1.heap.size V1).alloc (Nat.le_refl _) (.cells #[Value.int .u8 97, .int .u8 98, .int .u8 99] 5 (3, 3 + 1))
  have RL0 := Lib.hid (show Rd (V1.alloc (.cells #[Value.int .u8 97, .int .u8 98, .int .u8 99] 5 (3, 3 + 1))) (.slice (some ⟨V1.heap.size, 0, none⟩) 3 3) (nus .u8 [97, 98, 99]) from rd_lit V1 .u8 5 [97, 98, 99] 3 (3, 4) rfl (by simp [maxLen]))
  go_wp2_with fail
  replace K := Lib.hid (K.out.trans (hal.mono K.out.size))
  clear hal kcv
  refine (CB.out _ _ RL0.out).mono ?_
  rintro e V2 ⟨gb, cb, rfl, ho, hy⟩
  have OW := Lib.hid (own_low K.out.size ho)
  replace K := Lib.hid (K.out.trans (hy.mono K.out.size))
  have hgb : w.heap.size ≤ gb := (OW.out.lt gb rfl).1
  have hcc : (57 : Int) ≤ (cb : Int) := by
    obtain ⟨_, _, e1, h1, -⟩ := Rd.own ho
    simp only [Value.slice.injEq] at e1
    obtain ⟨-, -, rfl⟩ := e1
    rw [nus_length, HFL.out] at h1
    omega
  clear ho hy RL0 CB CK
  go_wp2_with fail
  refine (round_any k 9 _ (by omega) (by omega)).mono ?_
  rintro e V3 ⟨rfl, rfl⟩
  rw [HKK.out]
  have c24x := OW.out.cellAt 24 (by omega)
  rw [nus_get _ _ _ (by have q := HFL.out; omega)] at c24x
  have f24x := OW.out.frozenAt 24
  rw [HX24.out] at c24x
  have c46x := OW.out.cellAt 46 (by omega)
  rw [nus_get _ _ _ (by have q := HFL.out; omega)] at c46x
  have f46x := OW.out.frozenAt 46
  generalize List.getD F 46 0 = y46x at c46x
  have hst0 := OW.out.stored 24 (.int .u8 ((zx : Nat) : Int))
  rw [nus_set] at hst0
  have hst0 : (V2.setCell ⟨gb, 24, none⟩ (.int .u8 (zx : Int))).ownsRow w.heap.size 5 1 (.slice (some ⟨gb, 0, none⟩) 57 cb) 57 (nus .u8 (F.set 24 zx)) ∧ V2.grownBy (V2.setCell ⟨gb, 24, none⟩ (.int .u8 (zx : Int))) (some gb) := hst0
  have HST0 := Lib.hid hst0
  clear hst0
  have hst1 := HST0.out.1.stored 46 (.int .u8 ((64 : Nat) : Int))
  rw [nus_set] at hst1
  have hst1 : ((V2.setCell ⟨gb, 24, none⟩ (.int .u8 (zx : Int))).setCell ⟨gb, 46, none⟩ (.int .u8 64)).ownsRow w.heap.size 5 1 (.slice (some ⟨gb, 0, none⟩) 57 cb) 57 (nus .u8 ((F.set 24 zx).set 46 64)) ∧ (V2.setCell ⟨gb, 24, none⟩ (.int .u8 (zx : Int))).grownBy ((V2.setCell ⟨gb, 24, none⟩ (.int .u8 (zx : Int))).setCell ⟨gb, 46, none⟩ (.int .u8 64)) (some gb) := hst1
  have HST1 := Lib.hid hst1
  clear hst1
  go_upto_region 22 with fail
  have gr := (grownBy_trans HST0.out.2 HST1.out.2)
  replace K := Lib.hid (K.out.grown gr K.out.size (fun k e => by cases e; exact hgb))
  have R := Lib.hid (Rd.own HST1.out.1)
  clear gr OW HST0 HST1 c24x f24x c46x f46x
  generalize ((V2.setCell ⟨gb, 24, none⟩ (.int .u8 (zx : Int))).setCell ⟨gb, 46, none⟩ (.int .u8 64)) = V4 at *
  go_wp2_with fail
  refine (CR.out _ _ R.out).mono ?_
  rintro e V5 ⟨rfl, hy⟩
  replace K := Lib.hid (K.out.trans (hy.mono K.out.size))
  replace R := Lib.hid (R.out.below hy)
  clear hy
  go_wp2_with (((with_reducible refine wpList_blk_store (op := ⟨none, .store 31 (.tmp 7) (.tmp 70), _, _, _, _⟩) ?sg14 31 (.tmp 7) (.tmp 70) ?so14 (V5.heap.size) v0 ?sx14 ?sy14 (Blk.new V5 31 #[Value.bool false, .int .i64 0, .int .i64 0, .int .i64 0, .int .u8 0, .bool false, .int .u8 0, .int .u8 0, .int .u8 0, .int .u8 0, .int .u8 0, .int .u8 0, .int .u8 0, .int .u8 0, .int .u8 0, .int .u8 0, .int .u8 0, .int .u8 0, .int .u8 0, .int .u8 0, .int .u8 0, .int .u8 0, .bool false, .int .u8 0, .int .u8 0, .int .u8 0, .int .u8 0, .int .u8 0, .int .u8 0, .int .u8 0, .int .u8 0, .int .u8 0, .int .u8 0, .int .u8 0, .int .u8 0, .int .u8 0, .int .u8 0, .int .u8 0, .int .u8 0, .int .u16 0, .int .u16 0, .int .u8 0]) Y0.out Z0.out A0.out ?_); (case sg14 => rfl); (case so14 => rfl); (case sx14 => rfl); (case sy14 => rfl)))
  intro V6 hA hF hB
  have hy := ((Below.refl V5.heap.size V5).alloc (Nat.le_refl _) (.cells #[Value.bool false, .int .i64 0, .int .i64 0, .int .i64 0, .int .u8 0, .bool false, .int .u8 0, .int .u8 0, .int .u8 0, .int .u8 0, .int .u8 0, .int .u8 0, .int .u8 0, .int .u8 0, .int .u8 0, .int .u8 0, .int .u8 0, .int .u8 0, .int .u8 0, .int .u8 0, .int .u8 0, .int .u8 0, .bool false, .int .u8 0, .int .u8 0, .int .u8 0, .int .u8 0, .int .u8 0, .int .u8 0, .int .u8 0, .int .u8 0, .int .u8 0, .int .u8 0, .int .u8 0, .int .u8 0, .int .u8 0, .int .u8 0, .int .u8 0, .int .u8 0, .int .u16 0, .int .u16 0, .int .u8 0] 31)).trans (hB _ (Nat.le_refl _))
  replace K := Lib.hid (K.out.trans (hy.mono K.out.size))
  replace R := Lib.hid (R.out.below hy)
  have HX := Lib.hid hA
  clear hA hF hB hy
  have L15 : (loadVar 31 ⟨V5.heap.size, 0, none⟩).run Try.prog V6 = .ok (.agg v0) V6 := run_blk_load (P := Try.prog) 31 (V5.heap.size) _ HX.out Try.underlying31 rfl Z0.out
  replace L15 := Lib.hid L15
  go_wp2_with (((with_reducible refine wpList_load_want (op := ⟨some 79, .load 31 (.tmp 7), _, _, _, _⟩) ?wg15 31 (.tmp 7) ?wo15 ⟨V5.heap.size, 0, none⟩ ?wx15 (.agg v0) L15.out ?_); (case wg15 => rfl); (case wo15 => rfl); (case wx15 => rfl)))
  clear L15
  refine (CG.out _ _ R.out).mono ?_
  rintro e V7 ⟨rfl, hy⟩
  replace K := Lib.hid (K.out.trans (hy.mono K.out.size))
  replace R := Lib.hid (R.out.below hy)
  replace HX := Lib.hid (HX.out.below hy HX.out.lt)
  clear hy
  go_wp2_with fail
  refine (awake_any _).mono ?_
  rintro e V8 ⟨rfl, hy⟩
  replace K := Lib.hid (K.out.trans (hy.mono K.out.size))
  replace R := Lib.hid (R.out.below hy)
  replace HX := Lib.hid (HX.out.below hy HX.out.lt)
  clear hy
  go_wp2
  go_ret
  exact ⟨rfl, K.out⟩

set_option maxRecDepth 100000 in
set_option maxHeartbeats 4000000 in
theorem reason_8 (n k : Int) (w : World) (hk : k % 9 = 8) :
    Calls Try.prog 7 #[.int .i64 n, .int .i64 k] w fun e w' => e = .returned (.bool true) ∧ Below w.heap.size w w' := by
  obtain ⟨u, hu⟩ : ∃ u, u = (n % 1073741824).toNat := ⟨_, rfl⟩
  have CK := Lib.hid (fun W => flow_any n false false W)
  rw [← hu] at CK
  have CB := Lib.hid (show ∀ W z, Rd W (.slice (some z) 3 3) (nus .u8 [97, 98, 99]) → _ from fun W z (h : Rd W (.slice (some z) 3 3) (nus .u8 [97, 98, 99])) => fB8_any u false false 0 0 (some z) 3 3 [97, 98, 99] false false W h rfl (by intro e; cases e) (by decide) (by omega) (by omega) (by omega))
  have hlen : (fB8 u false false 0 [97, 98, 99] false false (List.replicate 0 0)).length = 57 := (fB8_told u false false 0 [97, 98, 99] false false (List.replicate 0 0) (by decide)).len
  have h0 := (fB8_told u false false 0 [97, 98, 99] false false (List.replicate 0 0) (by decide)).rr
  have hcut := fun q (hq : q < 57) => r_cut u q hq
  obtain ⟨x, y, s0, s1, s2, s3, SG, hF⟩ := fr7 u
  generalize fB8 u false false 0 [97, 98, 99] false false (List.replicate 0 0) = F at *
  have hlt := hF.lt
  obtain ⟨hx, hx24⟩ := x_lt hF
  have HXX := xor_0 x hx
  have hr : rr (((F.set 12 134).set 13 221).set 14 69) = 3 := r_six hF
  have hz := xor0_lt x hx
  generalize x ^^^ 2 ^ 0 = zx at *
  have hle : (((F.set 12 134).set 13 221).set 14 69).length ≤ 65535 := by simp only [List.length_set]; omega
  have CR := Lib.hid (fun W z (h : Rd W z (nus .u8 (((F.set 12 134).set 13 221).set 14 69))) => fread_any z (((F.set 12 134).set 13 221).set 14 69) W h (lt_set _ 14 69 (lt_set _ 13 221 (lt_set _ 12 134 hlt (by omega)) (by omega)) (by omega)) (.inl hle))
  have CG := Lib.hid (fun W z (h : Rd W z (nus .u8 (((F.set 12 134).set 13 221).set 14 69))) => fgood_any z (((F.set 12 134).set 13 221).set 14 69) W h (lt_set _ 14 69 (lt_set _ 13 221 (lt_set _ 12 134 hlt (by omega)) (by omega)) (by omega)) hle)
  rw [hr] at CR
  rw [vw_no _ (by rw [hr]; omega)] at CR
  rw [gf_no _ (by rw [hr]; omega)] at CG
  have Q0 := fun W => eq_zero31 W
  have Y0 : Hid (v0.size = Array.size (#[Value.bool false, .int .i64 0, .int .i64 0, .int .i64 0, .int .u8 0, .bool false, .int .u8 0, .int .u8 0, .int .u8 0, .int .u8 0, .int .u8 0, .int .u8 0, .int .u8 0, .int .u8 0, .int .u8 0, .int .u8 0, .int .u8 0, .int .u8 0, .int .u8 0, .int .u8 0, .int .u8 0, .int .u8 0, .bool false, .int .u8 0, .int .u8 0, .int .u8 0, .int .u8 0, .int .u8 0, .int .u8 0, .int .u8 0, .int .u8 0, .int .u8 0, .int .u8 0, .int .u8 0, .int .u8 0, .int .u8 0, .int .u8 0, .int .u8 0, .int .u8 0, .int .u16 0, .int .u16 0, .int .u8 0] : Array Value)) := v0_size
  have Z0 := Lib.hid (i72.trans (congrArg some v0_size.symm))
  have A0 := Lib.hid v0_all
  rw [hlen] at CB
  have HFL := Lib.hid hlen
  have HX24 := Lib.hid hx24
  generalize flow u false false = kc at *
  clear hF hlt hlen h0 hcut hx24 hr hle hu hz
  have kcv := fun (w : World) (C : Array Value) (n c : Nat) => Lib.run_convert_bytes_const (P := Try.prog) w 22 5 C n c Try.underlying22 Try.underlying5
  have K := Lib.hid (Below.refl w.heap.size w)
  have HKK := Lib.hid hk
  clear hk
  go_enter Try.func7, Try.ntmps7
  go_wp2_with fail
  refine (CK.out _).mono ?_
  rintro e V1 ⟨rfl, hy⟩
  replace K := Lib.hid (K.out.trans (hy.mono K.out.size))
  clear hy
  have hal := (Below.refl V1.heap.size V1).alloc (Nat.le_refl _) (.cells #[Value.int .u8 97, .int .u8 98, .int .u8 99] 5 (3, 3 + 1))
  have RL0 := Lib.hid (show Rd (V1.alloc (.cells #[Value.int .u8 97, .int .u8 98, .int .u8 99] 5 (3, 3 + 1))) (.slice (some ⟨V1.heap.size, 0, none⟩) 3 3) (nus .u8 [97, 98, 99]) from rd_lit V1 .u8 5 [97, 98, 99] 3 (3, 4) rfl (by simp [maxLen]))
  go_wp2_with fail
  replace K := Lib.hid (K.out.trans (hal.mono K.out.size))
  clear hal kcv
  refine (CB.out _ _ RL0.out).mono ?_
  rintro e V2 ⟨gb, cb, rfl, ho, hy⟩
  have OW := Lib.hid (own_low K.out.size ho)
  replace K := Lib.hid (K.out.trans (hy.mono K.out.size))
  have hgb : w.heap.size ≤ gb := (OW.out.lt gb rfl).1
  have hcc : (57 : Int) ≤ (cb : Int) := by
    obtain ⟨_, _, e1, h1, -⟩ := Rd.own ho
    simp only [Value.slice.injEq] at e1
    obtain ⟨-, -, rfl⟩ := e1
    rw [nus_length, HFL.out] at h1
    omega
  clear ho hy RL0 CB CK
  go_wp2_with fail
  refine (round_any k 9 _ (by omega) (by omega)).mono ?_
  rintro e V3 ⟨rfl, rfl⟩
  rw [HKK.out]
  have c12x := OW.out.cellAt 12 (by omega)
  rw [nus_get _ _ _ (by have q := HFL.out; omega)] at c12x
  have f12x := OW.out.frozenAt 12
  generalize List.getD F 12 0 = y12x at c12x
  have c13x := OW.out.cellAt 13 (by omega)
  rw [nus_get _ _ _ (by have q := HFL.out; omega)] at c13x
  have f13x := OW.out.frozenAt 13
  generalize List.getD F 13 0 = y13x at c13x
  have c14x := OW.out.cellAt 14 (by omega)
  rw [nus_get _ _ _ (by have q := HFL.out; omega)] at c14x
  have f14x := OW.out.frozenAt 14
  generalize List.getD F 14 0 = y14x at c14x
  have hst0 := OW.out.stored 12 (.int .u8 ((134 : Nat) : Int))
  rw [nus_set] at hst0
  have hst0 : (V2.setCell ⟨gb, 12, none⟩ (.int .u8 134)).ownsRow w.heap.size 5 1 (.slice (some ⟨gb, 0, none⟩) 57 cb) 57 (nus .u8 (F.set 12 134)) ∧ V2.grownBy (V2.setCell ⟨gb, 12, none⟩ (.int .u8 134)) (some gb) := hst0
  have HST0 := Lib.hid hst0
  clear hst0
  have hst1 := HST0.out.1.stored 13 (.int .u8 ((221 : Nat) : Int))
  rw [nus_set] at hst1
  have hst1 : ((V2.setCell ⟨gb, 12, none⟩ (.int .u8 134)).setCell ⟨gb, 13, none⟩ (.int .u8 221)).ownsRow w.heap.size 5 1 (.slice (some ⟨gb, 0, none⟩) 57 cb) 57 (nus .u8 ((F.set 12 134).set 13 221)) ∧ (V2.setCell ⟨gb, 12, none⟩ (.int .u8 134)).grownBy ((V2.setCell ⟨gb, 12, none⟩ (.int .u8 134)).setCell ⟨gb, 13, none⟩ (.int .u8 221)) (some gb) := hst1
  have HST1 := Lib.hid hst1
  clear hst1
  have hst2 := HST1.out.1.stored 14 (.int .u8 ((69 : Nat) : Int))
  rw [nus_set] at hst2
  have hst2 : (((V2.setCell ⟨gb, 12, none⟩ (.int .u8 134)).setCell ⟨gb, 13, none⟩ (.int .u8 221)).setCell ⟨gb, 14, none⟩ (.int .u8 69)).ownsRow w.heap.size 5 1 (.slice (some ⟨gb, 0, none⟩) 57 cb) 57 (nus .u8 (((F.set 12 134).set 13 221).set 14 69)) ∧ ((V2.setCell ⟨gb, 12, none⟩ (.int .u8 134)).setCell ⟨gb, 13, none⟩ (.int .u8 221)).grownBy (((V2.setCell ⟨gb, 12, none⟩ (.int .u8 134)).setCell ⟨gb, 13, none⟩ (.int .u8 221)).setCell ⟨gb, 14, none⟩ (.int .u8 69)) (some gb) := hst2
  have HST2 := Lib.hid hst2
  clear hst2
  go_upto_region 22 with fail
  have gr := (grownBy_trans (grownBy_trans HST0.out.2 HST1.out.2) HST2.out.2)
  replace K := Lib.hid (K.out.grown gr K.out.size (fun k e => by cases e; exact hgb))
  have R := Lib.hid (Rd.own HST2.out.1)
  clear gr OW HST0 HST1 HST2 c12x f12x c13x f13x c14x f14x
  generalize (((V2.setCell ⟨gb, 12, none⟩ (.int .u8 134)).setCell ⟨gb, 13, none⟩ (.int .u8 221)).setCell ⟨gb, 14, none⟩ (.int .u8 69)) = V4 at *
  go_wp2_with fail
  refine (CR.out _ _ R.out).mono ?_
  rintro e V5 ⟨rfl, hy⟩
  replace K := Lib.hid (K.out.trans (hy.mono K.out.size))
  replace R := Lib.hid (R.out.below hy)
  clear hy
  go_wp2_with (((with_reducible refine wpList_blk_store (op := ⟨none, .store 31 (.tmp 7) (.tmp 70), _, _, _, _⟩) ?sg16 31 (.tmp 7) (.tmp 70) ?so16 (V5.heap.size) v0 ?sx16 ?sy16 (Blk.new V5 31 #[Value.bool false, .int .i64 0, .int .i64 0, .int .i64 0, .int .u8 0, .bool false, .int .u8 0, .int .u8 0, .int .u8 0, .int .u8 0, .int .u8 0, .int .u8 0, .int .u8 0, .int .u8 0, .int .u8 0, .int .u8 0, .int .u8 0, .int .u8 0, .int .u8 0, .int .u8 0, .int .u8 0, .int .u8 0, .bool false, .int .u8 0, .int .u8 0, .int .u8 0, .int .u8 0, .int .u8 0, .int .u8 0, .int .u8 0, .int .u8 0, .int .u8 0, .int .u8 0, .int .u8 0, .int .u8 0, .int .u8 0, .int .u8 0, .int .u8 0, .int .u8 0, .int .u16 0, .int .u16 0, .int .u8 0]) Y0.out Z0.out A0.out ?_); (case sg16 => rfl); (case so16 => rfl); (case sx16 => rfl); (case sy16 => rfl)))
  intro V6 hA hF hB
  have hy := ((Below.refl V5.heap.size V5).alloc (Nat.le_refl _) (.cells #[Value.bool false, .int .i64 0, .int .i64 0, .int .i64 0, .int .u8 0, .bool false, .int .u8 0, .int .u8 0, .int .u8 0, .int .u8 0, .int .u8 0, .int .u8 0, .int .u8 0, .int .u8 0, .int .u8 0, .int .u8 0, .int .u8 0, .int .u8 0, .int .u8 0, .int .u8 0, .int .u8 0, .int .u8 0, .bool false, .int .u8 0, .int .u8 0, .int .u8 0, .int .u8 0, .int .u8 0, .int .u8 0, .int .u8 0, .int .u8 0, .int .u8 0, .int .u8 0, .int .u8 0, .int .u8 0, .int .u8 0, .int .u8 0, .int .u8 0, .int .u8 0, .int .u16 0, .int .u16 0, .int .u8 0] 31)).trans (hB _ (Nat.le_refl _))
  replace K := Lib.hid (K.out.trans (hy.mono K.out.size))
  replace R := Lib.hid (R.out.below hy)
  have HX := Lib.hid hA
  clear hA hF hB hy
  have L17 : (loadVar 31 ⟨V5.heap.size, 0, none⟩).run Try.prog V6 = .ok (.agg v0) V6 := run_blk_load (P := Try.prog) 31 (V5.heap.size) _ HX.out Try.underlying31 rfl Z0.out
  replace L17 := Lib.hid L17
  go_wp2_with (((with_reducible refine wpList_load_want (op := ⟨some 79, .load 31 (.tmp 7), _, _, _, _⟩) ?wg17 31 (.tmp 7) ?wo17 ⟨V5.heap.size, 0, none⟩ ?wx17 (.agg v0) L17.out ?_); (case wg17 => rfl); (case wo17 => rfl); (case wx17 => rfl)))
  clear L17
  refine (CG.out _ _ R.out).mono ?_
  rintro e V7 ⟨rfl, hy⟩
  replace K := Lib.hid (K.out.trans (hy.mono K.out.size))
  replace R := Lib.hid (R.out.below hy)
  replace HX := Lib.hid (HX.out.below hy HX.out.lt)
  clear hy
  go_wp2_with fail
  refine (awake_any _).mono ?_
  rintro e V8 ⟨rfl, hy⟩
  replace K := Lib.hid (K.out.trans (hy.mono K.out.size))
  replace R := Lib.hid (R.out.below hy)
  replace HX := Lib.hid (HX.out.below hy HX.out.lt)
  clear hy
  go_wp2
  go_ret
  exact ⟨rfl, K.out⟩

theorem reasons_walk (n k : Int) (w : World) : Calls Try.prog 7 #[.int .i64 n, .int .i64 k] w fun e w' => e = .returned (.bool true) ∧ Below w.heap.size w w' := by
  have h : k % 9 = 0 ∨ k % 9 = 1 ∨ k % 9 = 2 ∨ k % 9 = 3 ∨ k % 9 = 4 ∨ k % 9 = 5 ∨ k % 9 = 6 ∨ k % 9 = 7 ∨ k % 9 = 8 := by omega
  rcases h with h | h | h | h | h | h | h | h | h
  · exact reason_0 n k w h
  · exact reason_1 n k w h
  · exact reason_2 n k w h
  · exact reason_3 n k w h
  · exact reason_4 n k w h
  · exact reason_5 n k w h
  · exact reason_6 n k w h
  · exact reason_7 n k w h
  · exact reason_8 n k w h
end Go.Proofs.Ytopfbgoiehlhbaa

