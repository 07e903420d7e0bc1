/- CrcTells' walk. -/
import Derived.Test.YthgcgkfcofomcaaS16t
import Derived.Test.YthgcgkfcofomcaaTk
import Derived.Test.YthgcgkfcofomcaaRg
import Derived.Test.YthgcgkfcofomcaaSw
import Derived.Test.YthgcgkfcofomcaaLw
import Derived.Test.YthgcgkfcofomcaaSb
import Derived.LoopTactic
import Derived.Handy
import Derived.Deep.CutBlock
import Derived.Deep.DeepCutAuto
namespace Go.Proofs.Ythgcgkfcofomcaa
open Go.RowKit Go.Lib

set_option maxRecDepth 100000 in
set_option maxHeartbeats 2000000 in
theorem tells_walk (p s : Nat) (hp : p < 4294967296) (hs : s < 4294967296) (v : Value) (bs : List Nat) (hb : ∀ c ∈ bs, c < 256) (n : Int) (w : World) (hv : Rd w v (nus .u8 bs)) :
    Calls Try.prog 3 #[.int .u32 (p : Int), .int .u32 (s : Int), v, .int .i64 n] w fun e w' => e = .returned (.bool true) ∧ Below w.heap.size w w' := by
  obtain ⟨a, cap, rfl, hcap, hmax⟩ := rd_shape hv
  obtain ⟨ZL, hZL⟩ : ∃ Z, Z = List.replicate 256 0 := ⟨_, rfl⟩
  have z26 : ∀ W, (zeroValue 26).run Try.prog W = .ok (.agg (tcs ZL)) W := by rw [hZL]; exact zero26
  have hl : ZL.length = 256 := by rw [hZL]; exact List.length_replicate
  clear hZL
  have HL := Lib.hid hl
  have K := Lib.hid (Below.refl w.heap.size w)
  have CK := Lib.hid known_any
  have CA := Lib.hid awake_any
  by_cases hlen : 500 < bs.length
  · have d5 : decide ((bs.length : Int) > 500) = true := decide_eq_true (by omega)
    have d6 : decide ((500 : Int) < (bs.length : Int)) = true := decide_eq_true (by omega)
    go_enter Try.func3, Try.ntmps3
    go_wp2_with fail
    refine (CA.out w).mono ?_
    rintro e V1 ⟨rfl, hy⟩
    go_wp2
    go_ret
    exact ⟨rfl, hy⟩
  have d5 : decide ((bs.length : Int) > 500) = false := decide_eq_false (by omega)
  have d6 : decide ((500 : Int) < (bs.length : Int)) = false := decide_eq_false (by omega)
  have CM := Lib.hid (fun W => make_any p hp W)
  have CR := Lib.hid (fun W => round_any n 256 W (by decide) (by decide))
  have CR4 := Lib.hid (fun W => round_any n 4 W (by decide) (by decide))
  have CN := Lib.hid (fun W => rknown_any n W)
  have CO := Lib.hid (fun W h => of_any p s hp hs (.slice a bs.length cap) bs hb W h)
  have CC := Lib.hid (fun W h => crc_any p s hp hs (.slice a bs.length cap) bs hb W h)
  have X := Lib.hid hv
  obtain ⟨hk1, hk2⟩ := round_nat n 256 (by decide)
  obtain ⟨hj1, hj2⟩ := round_nat n 4 (by decide)
  generalize hkk : (n % ((256 : Nat) : Int)).toNat = k at hk1 hk2
  generalize hjj : (n % ((4 : Nat) : Int)).toNat = m at hj1 hj2
  have hk1' : n % 256 = (k : Int) := hk1
  have hj1' : n % 4 = (m : Int) := hj1
  have hjj' : (n % 4).toNat = m := hjj
  rw [hk1'] at CR
  rw [hj1'] at CR4
  rw [hjj'] at CN
  have CC4 := Lib.hid (tcs_at knownC m (show m < knownC.length from hj2))
  generalize knownC.getD m 0 = kn at CC4 CN
  generalize crcC p s bs = cs at CO CC
  have TA := Lib.hid (fun j (h : j < 256) => (tcs_at (tabL p) j (by rw [tabL_len]; exact h)).trans (by rw [tabL_at _ _ h]))
  have SZ := Lib.hid (tabL_len p)
  have hS : Hid ((tcs (tabL p)).size = (tcs ZL).size) := by show _ = _; rw [tcs_size, tcs_size, SZ.out, HL.out]
  have hI := Lib.hid (info26 (tabL p) SZ.out)
  have hO := Lib.hid (tcs_one (tabL p))
  generalize tabL p = T at *
  have TB := Lib.hid (TA.out k hk2)
  have w1 : IntKind.u32.wrap (k : Int) = (k : Int) := by rw [IntKind.wrap_u32]; omega
  clear hk1 hk1' hj1 hj1' hjj' hkk hjj hl hv hs TA
  go_enter Try.func3, Try.ntmps3
  go_wp2_with fail
  refine (CM.out w).mono ?_
  rintro e V1 ⟨rfl, hy⟩
  replace K := Lib.hid (K.out.trans (hy.mono K.out.size))
  replace X := Lib.hid (X.out.below hy)
  clear hy
  go_wp2_with (((with_reducible refine wpList_blk_store (op := ⟨none, .store 26 (.tmp 9) (.tmp 19), _, _, _, _⟩) ?sg1 26 (.tmp 9) (.tmp 19) ?so1 (V1.heap.size) (tcs T) ?sx1 ?sy1 (Blk.new V1 26 (tcs ZL)) hS.out hI.out hO.out ?_); (case sg1 => rfl); (case so1 => rfl); (case sx1 => rfl); (case sy1 => rfl)))
  intro V2 hA hF hB
  have hy := ((Below.refl V1.heap.size V1).alloc (Nat.le_refl _) (.cells (tcs ZL) 26)).trans (hB _ (Nat.le_refl _))
  replace K := Lib.hid (K.out.trans (hy.mono K.out.size))
  replace X := Lib.hid (X.out.below hy)
  have N := Lib.hid hA
  clear hA hF hB hy
  go_wp2_with fail
  refine (CR.out V2).mono ?_
  rintro e V3 ⟨rfl, rfl⟩
  generalize hg2 : V1.heap.size = g2 at *
  go_wp2
  go_loopw [11, 12] (fun x i wr => ∃ (j y : Nat), j ≤ 8 ∧ i = .int .i64 (j : Int) ∧ x = .int .u32 (y : Int) ∧ Hid (y < 4294967296 ∧ stpN p (8 - j) y = tabC p k) ∧ V2 = wr) (fun _ i _ => 8 - (RowKit.intOf i).toNat)
  case atStart => exact ⟨0, k, by omega, rfl, rfl, ⟨by omega, rfl⟩, rfl⟩
  case round =>
    obtain ⟨j, y, hj, rfl, rfl, hY, rfl⟩ := hrel
    by_cases hlt : j < 8
    · have d8 : decide ((j : Int) < 8) = true := decide_eq_true (by omega)
      have A1 := Lib.hid (and1_u32 y hY.out.1)
      have X1 := Lib.hid (xor_u32 (y / 2) p (by have := hY.out.1; omega) hp)
      have hq := Lib.hid (stp_lt p y hp hY.out.1)
      have hN := Lib.hid (stpN_next p j y _ hlt hY.out.2)
      have hd : (y : Int) / 2 = ((y / 2 : Nat) : Int) := by omega
      have HD := Lib.hid hd
      clear hd
      have hm : y % 2 = 0 ∨ y % 2 = 1 := by omega
      rcases hm with hm | hm
      · have hS := Lib.hid (stp_not p y hm)
        have a1 : bits .and .u32 (y : Int) 1 = 0 := by rw [A1.out, hm]; rfl
        go_wp2
        go_roundw
        case rel => exact ⟨j + 1, stp p y, Nat.succ_le_of_lt hlt, by go_num, by rw [hS.out, HD.out], ⟨hq.out, hN.out⟩, trivial⟩
        case measure => simp [RowKit.intOf]; omega
      · have hS := Lib.hid (stp_odd p y hm)
        have a1 : bits .and .u32 (y : Int) 1 = 1 := by rw [A1.out, hm]; rfl
        go_wp2
        go_roundw
        case rel => exact ⟨j + 1, stp p y, Nat.succ_le_of_lt hlt, by go_num, by rw [hS.out, HD.out, X1.out], ⟨hq.out, hN.out⟩, trivial⟩
        case measure => simp [RowKit.intOf]; omega
    obtain rfl : j = 8 := by omega
    have d8 : decide (((8 : Nat) : Int) < 8) = false := by decide
    have hy8 : y = tabC p k := hY.out.2
    rw [← hy8] at TB
    clear hy8 hY hlt hj
    go_wp2_with fail
    refine (CK.out V2).mono ?_
    rintro e V4 ⟨rfl, hB, hy⟩
    replace K := Lib.hid (K.out.trans (hy.mono K.out.size))
    replace X := Lib.hid (X.out.below hy)
    replace N := Lib.hid (N.out.below hy N.out.lt)
    have B := Lib.hid (hB)
    clear hy
    have hB1 := B.out
    clear hB1
    go_wp2_with fail
    refine wp_region_held (S := (fun w' : World => Below (V4.heap.size) V4 w')) (by kernel_rfl) ?_
    change wpAnyH _ _ _ _ _ _ _ _ V4.drew
    have hy : Below V4.heap.size V4 V4.drew := (Below.refl _ _).drew
    have hE0 : Below (V4.heap.size) V4 V4.drew := (Below.refl _ _).drew
    clear hy
    generalize V4.drew = Y13x0 at hE0  ⊢
    have E0 := Lib.hid hE0
    clear hE0
    refine tkA 0 (?_) ?_ E0.out ?_
    rotate_left
    · (intro w1 hS; go_simp; try with_reducible rfl)
    simp only [Act.put, tS1, tS2, tS3]
    refine tkA 1 (?_) ?_ E0.out ?_
    rotate_left
    · (intro w1 hS; go_simp; try with_reducible rfl)
    simp only [Act.put, tS1, tS2, tS3]
    refine tkA 2 (?_) ?_ E0.out ?_
    rotate_left
    · (intro w1 hS; go_simp; try with_reducible rfl)
    simp only [Act.put, tS1, tS2, tS3]
    refine tkA 3 (?_) ?_ E0.out ?_
    rotate_left
    · (intro w1 hS; go_simp; try with_reducible rfl)
    simp only [Act.put, tS1, tS2, tS3]
    refine tkA 4 (?_) ?_ E0.out ?_
    rotate_left
    · (intro w1 hS; go_simp; try with_reducible rfl)
    simp only [Act.put, tS1, tS2, tS3]
    refine tkA 5 (?_) ?_ E0.out ?_
    rotate_left
    · (intro w1 hS; have hW := hS; have q : (k : Int) < 256 := (by omega); clear hW hS; go_simp; try with_reducible rfl)
    simp only [Act.put, tS1, tS2, tS3]
    refine tkA 6 (?_) ?_ E0.out ?_
    rotate_left
    · (intro w1 hS; have hW := hS; have q := ((N.out.below hW N.out.lt).cell k).trans TB.out; clear hW hS; go_simp; try with_reducible rfl)
    simp only [Act.put, tS1, tS2, tS3]
    refine tkA 7 (?_) ?_ E0.out ?_
    rotate_left
    · (intro w1 hS; go_simp; try with_reducible rfl)
    simp only [Act.put, tS1, tS2, tS3]
    refine tkA 8 (?_) ?_ E0.out ?_
    rotate_left
    · (intro w1 hS; go_simp; try with_reducible rfl)
    simp only [Act.put, tS1, tS2, tS3]
    refine tkA 9 (?_) ?_ E0.out ?_
    rotate_left
    · (intro w1 hS; go_simp; try with_reducible rfl)
    simp only [Act.put, tS1, tS2, tS3]
    refine tkA 10 (?_) ?_ E0.out ?_
    rotate_left
    · (intro w1 hS; go_simp; try with_reducible rfl)
    simp only [Act.put, tS1, tS2, tS3]
    refine tkA 11 (.agg (tcs T)) ?_ E0.out ?_
    · (intro w1 hS; have hW := hS; exact exec_load 26 (.tmp 9) rfl _ rfl _ (run_blk_load (P := Try.prog) 26 (g2) _ (N.out.below hW N.out.lt) Try.underlying26 rfl hI.out))
    simp only [Act.put, tS1, tS2, tS3]
    refine tkA 12 (?_) ?_ E0.out ?_
    rotate_left
    · (intro w1 hS; go_simp; try with_reducible rfl)
    simp only [Act.put, tS1, tS2, tS3]
    refine tkA 13 (?_) ?_ E0.out ?_
    rotate_left
    · (intro w1 hS; go_simp; try with_reducible rfl)
    simp only [Act.put, tS1, tS2, tS3]
    refine tkA 15 (?_) ?_ E0.out ?_
    rotate_left
    · (intro w1 hS; go_simp; try with_reducible rfl)
    simp only [Act.put, tS1, tS2, tS3]
    refine tkA 16 (?_) ?_ E0.out ?_
    rotate_left
    · (intro w1 hS; go_simp; try with_reducible rfl)
    simp only [Act.put, tS1, tS2, tS3]
    refine tkA 17 (?_) ?_ E0.out ?_
    rotate_left
    · (intro w1 hS; go_simp; try with_reducible rfl)
    simp only [Act.put, tS1, tS2, tS3]
    refine tkO 14 (fun KK hK => ?_)
    go_simp
    refine (CO.out Y13x0 (X.out.below E0.out)).mono ?_
    rintro e Y13x1 ⟨rfl, hy⟩
    have E1 := Lib.hid (E0.out.trans (hy.mono E0.out.size))
    have C1 := Lib.hid E1.out
    clear hy E0
    refine hK.out _ _ C1.out (fun _ => ?_)
    clear hK KK
    refine wpAnyH_mono (S' := (fun w' : World => Below Y13x1.heap.size Y13x1 w')) (fun w1 h => C1.out.trans (h.mono C1.out.size)) _ _ _ _ ?_
    clear C1
    try simp only [Act.put, tS1, tS2, tS3]
    refine tkO 18 (fun KK hK => ?_)
    go_simp
    refine (same_below (CC.out Y13x1 (X.out.below E1.out))).mono ?_
    rintro e Y13x2 ⟨rfl, hy⟩
    have E2 := Lib.hid (E1.out.trans (hy.mono E1.out.size))
    have C2 := Lib.hid hy
    clear hy E1
    refine hK.out _ _ C2.out (fun _ => ?_)
    clear hK KK
    refine wpAnyH_mono (S' := (fun w' : World => Below Y13x2.heap.size Y13x2 w')) (fun w1 h => C2.out.trans (h.mono C2.out.size)) _ _ _ _ ?_
    clear C2
    try simp only [Act.put, tS1, tS2, tS3]
    refine tkA 19 (?_) ?_ (Below.refl _ _) ?_
    rotate_left
    · (intro w1 hS; go_simp; try with_reducible rfl)
    simp only [Act.put, tS1, tS2, tS3]
    refine tkA 20 (?_) ?_ (Below.refl _ _) ?_
    rotate_left
    · (intro w1 hS; go_simp; try with_reducible rfl)
    simp only [Act.put, tS1, tS2, tS3]
    refine tkA 21 (?_) ?_ (Below.refl _ _) ?_
    rotate_left
    · (intro w1 hS; go_simp; try with_reducible rfl)
    simp only [Act.put, tS1, tS2, tS3]
    refine tkA 22 (?_) ?_ (Below.refl _ _) ?_
    rotate_left
    · (intro w1 hS; go_simp; try with_reducible rfl)
    simp only [Act.put, tS1, tS2, tS3]
    refine tkA 23 (?_) ?_ (Below.refl _ _) ?_
    rotate_left
    · (intro w1 hS; go_simp; try with_reducible rfl)
    simp only [Act.put, tS1, tS2, tS3]
    refine tkA 27 (?_) ?_ (Below.refl _ _) ?_
    rotate_left
    · (intro w1 hS; go_simp; try with_reducible rfl)
    simp only [Act.put, tS1, tS2, tS3]
    refine tkO 24 (fun KK hK => ?_)
    go_simp
    refine (same_below (CR4.out Y13x2)).mono ?_
    rintro e Y13x3 ⟨rfl, hy⟩
    have E3 := Lib.hid (E2.out.trans (hy.mono E2.out.size))
    have C3 := Lib.hid hy
    clear hy E2
    refine hK.out _ _ C3.out (fun _ => ?_)
    clear hK KK
    refine wpAnyH_mono (S' := (fun w' : World => Below Y13x3.heap.size Y13x3 w')) (fun w1 h => C3.out.trans (h.mono C3.out.size)) _ _ _ _ ?_
    clear C3
    try simp only [Act.put, tS1, tS2, tS3]
    refine tkA 25 (?_) ?_ (Below.refl _ _) ?_
    rotate_left
    · (intro w1 hS; have hW := E3.out.trans (hS.mono E3.out.size); have q : (m : Int) < 4 := (by omega); clear hW hS; go_simp; try with_reducible rfl)
    simp only [Act.put, tS1, tS2, tS3]
    refine tkA 26 (?_) ?_ (Below.refl _ _) ?_
    rotate_left
    · (intro w1 hS; have hW := E3.out.trans (hS.mono E3.out.size); have q := ((B.out.below hW B.out.lt).cell m).trans CC4.out; clear hW hS; go_simp; try with_reducible rfl)
    simp only [Act.put, tS1, tS2, tS3]
    refine tkO 28 (fun KK hK => ?_)
    go_simp
    refine (CN.out Y13x3).mono ?_
    rintro e Y13x4 ⟨rfl, hy⟩
    have E4 := Lib.hid (E3.out.trans (hy.mono E3.out.size))
    have C4 := Lib.hid hy
    clear hy E3
    refine hK.out _ _ C4.out (fun _ => ?_)
    clear hK KK
    refine wpAnyH_mono (S' := (fun w' : World => Below Y13x4.heap.size Y13x4 w')) (fun w1 h => C4.out.trans (h.mono C4.out.size)) _ _ _ _ ?_
    clear C4
    try simp only [Act.put, tS1, tS2, tS3]
    refine tkA 29 (?_) ?_ (Below.refl _ _) ?_
    rotate_left
    · (intro w1 hS; go_simp; try with_reducible rfl)
    simp only [Act.put, tS1, tS2, tS3]
    refine tkA 30 (?_) ?_ (Below.refl _ _) ?_
    rotate_left
    · (intro w1 hS; go_simp; try with_reducible rfl)
    simp only [Act.put, tS1, tS2, tS3]
    refine tkA 31 (?_) ?_ (Below.refl _ _) ?_
    rotate_left
    · (intro w1 hS; go_simp; try with_reducible rfl)
    simp only [Act.put, tS1, tS2, tS3]
    refine tkO 32 (fun KK hK => ?_)
    go_simp
    refine (CA.out Y13x4).mono ?_
    rintro e Y13x5 ⟨rfl, hy⟩
    have E5 := Lib.hid (E4.out.trans (hy.mono E4.out.size))
    have C5 := Lib.hid hy
    clear hy E4
    refine hK.out _ _ C5.out (fun _ => ?_)
    clear hK KK
    refine wpAnyH_mono (S' := (fun w' : World => Below Y13x5.heap.size Y13x5 w')) (fun w1 h => C5.out.trans (h.mono C5.out.size)) _ _ _ _ ?_
    clear C5
    try simp only [Act.put, tS1, tS2, tS3]
    refine tkA 33 (?_) ?_ (Below.refl _ _) ?_
    rotate_left
    · (intro w1 hS; go_simp; try with_reducible rfl)
    simp only [Act.put, tS1, tS2, tS3]
    refine tkA 34 (?_) ?_ (Below.refl _ _) ?_
    rotate_left
    · (intro w1 hS; go_simp; try with_reducible rfl)
    simp only [Act.put, tS1, tS2, tS3]
    refine wpAnyH_done (by kernel_rfl) ?_ _
    have hy := E5.out
    replace K := Lib.hid (K.out.trans (hy.mono K.out.size))
    replace X := Lib.hid (X.out.below hy)
    replace N := Lib.hid (N.out.below hy N.out.lt)
    replace B := Lib.hid (B.out.below hy B.out.lt)
    clear hy E5
    go_wp2
    go_ret
    exact ⟨rfl, K.out⟩
end Go.Proofs.Ythgcgkfcofomcaa
