/- Texts that the walks of this seat lean on, put together. -/
import Derived.Lib.QuietBelow
import Derived.StillTailTactics
import Derived.Test.YtnpibdjfafpegaaTk
import Derived.Test.YtnpibdjfafpegaaM07
import Derived.Test.YtnpibdjfafpegaaM10
import Derived.Test.YtnpibdjfafpegaaM13
import Derived.Test.YtnpibdjfafpegaaM14
import Derived.Test.YtnpibdjfafpegaaM23
import Derived.Test.YtnpibdjfafpegaaM43
namespace Go.Proofs.Ytnpibdjfafpegaa
open Go.RowKit Go.Sort
theorem pow_t : ∀ t : Fin 8, 1 ≤ 2 ^ t.1 ∧ 2 ^ t.1 ≤ 128 := by decide
theorem xor_val (y t : Nat) (hy : y < 256) (ht : t < 8) : bits .xor .u8 (y : Int) ((2 ^ t : Nat) : Int) = ((y ^^^ 2 ^ t : Nat) : Int) :=
  u8_xor_nat _ _ hy (by have := (pow_t ⟨t, ht⟩).2; simp only at this; omega)
theorem xor_val' (y t : Nat) (hy : y < 256) (ht : t < 8) : bits .xor .u8 (y : Int) ((2 : Int) ^ t % 256) = ((y ^^^ 2 ^ t : Nat) : Int) := by
  have hp := (pow_t ⟨t, ht⟩).2
  simp only at hp
  have e : (2 : Int) ^ t = ((2 ^ t : Nat) : Int) := by simp
  have hm : ((2 ^ t : Nat) : Int) % 256 = ((2 ^ t : Nat) : Int) := by
    generalize (2 ^ t : Nat) = p at hp
    omega
  rw [← xor_val y t hy ht, e, hm]
theorem out_not (x : Value) (zs : List Nat) (w : World) (h : Rd w x (nus .u8 zs)) (hb : ∀ c ∈ zs, c < 256) (hz : zs.length ≤ 70000) (ho : outOk zs = false) :
    Calls Try.prog 13 #[x] w fun e w' => ∃ y, e = .returned (.tuple #[y, .agg z17, .bool false]) ∧ Below w.heap.size w w' := by
  have := out_any x zs w h hb hz
  unfold outA at this
  rw [ho] at this
  exact this.mono fun e w' ⟨y, h1, _, h3⟩ => ⟨y, h1, h3⟩
set_option maxRecDepth 100000 in
set_option maxHeartbeats 8000000 in
theorem odd_main (n : Int) (v6 d6 : Bool) (a : Option Addr) (la ca : Nat) (zs : List Nat) (at0 bit : Int) (k : Nat) (w : World) (hr : Rd w (.slice a la ca) (nus .u8 zs)) (hL : zs.length = la) (hna : a = none → ca = 0) (hb : ∀ c ∈ zs, c < 256) (h200 : la ≤ 200) (hk : 1 ≤ k) (hk2 : k ≤ 20) :
    Calls Try.prog 4 #[.int .i64 n, .bool v6, .slice a la ca, .bool d6, .int .i64 at0, .int .i64 bit, .int .i64 (k : Int)] w fun e w' => e = .returned (.bool true) ∧ Below w.heap.size w w' := by
  have K := Lib.hid (Below.refl w.heap.size w)
  have HA := Lib.hid (fun W => awake_any W)
  obtain ⟨u, hu⟩ : ∃ u, u = (n % 1073741824).toNat := ⟨_, rfl⟩
  have CK := Lib.hid (fun W => flow_any n v6 true W)
  rw [← hu] at CK
  obtain ⟨B, hB⟩ : ∃ B, B = fB8 u v6 true 0 zs false false (List.replicate 0 0) := ⟨_, rfl⟩
  have hbt := bt u v6 true 0 zs false false (List.replicate 0 0) (by omega)
  have hBl := fB8_lt u v6 true 0 zs false false 0 (by omega) hb
  rw [← hB] at hbt hBl
  have hm : hN false + hH v6 + (hsz (pr true) + zs.length) ≤ 300 := by
    have : hN false = 14 := rfl
    have : hH v6 ≤ 40 := by unfold hH; split <;> omega
    have : hsz (pr true) = 8 := rfl
    omega
  have hlB : B.length ≤ 300 := by rw [hbt.len]; simpa using hm
  have hlB2 : 42 ≤ B.length := by
    have h1 := hbt.m
    have h2 := hH_pos v6
    have h3 : hN false = 14 := rfl
    rw [hbt.len]; omega
  have CB := Lib.hid (fun W (h : Rd W (.slice a la ca) (nus .u8 zs)) => fB8_any u v6 true 0 0 a la ca zs false false W h hL hna hb (by omega) (by omega) (by omega))
  rw [← hB] at CB
  have hs : inS B d6 ≤ 65535 := by have := inS_le B d6 hbt.rr; omega
  have CD := Lib.hid (fun W => dip16 1 d6 W)
  rw [show ((1 : Int) % 200).toNat = 1 from by decide, show (8000 + ((1 : Int) % 1000).toNat) = 8001 from by decide] at CD
  have s1 : (cellsA d6 (D16 1)).size = 17 := by rw [cellsA_size, D16_len]
  have F1 := Lib.hid (fun W => dip_addr (cellsA d6 (D16 1)) 8001 s1 W)
  have CO4 := Lib.hid (fun W => own_any false W)
  have CO6 := Lib.hid (fun W => own_any true W)
  have b5 := D16_lt 150 (by decide)
  have b1 := D16_lt 1 (by decide)
  have C1 := Lib.hid (fun W z (h : Rd W z (nus .u8 B)) => in_own z B (D16 1) d6 W h hBl (by omega) hbt.rr (D16_len _) b1 (D16_v _ _) hs)
  have hW := was B d6 (D16 150) (D16 1) hBl hbt.rr (D16_len _) (D16_len _) (D16_v _ _) (D16_v _ _) hs
  have hFl := inn_lt B d6 (D16 150) (D16 1) hBl b5 b1
  have hlF : (inn B d6 (D16 150) (D16 1)).length ≤ 400 ∧ 60 ≤ (inn B d6 (D16 150) (D16 1)).length := by
    have h1 := inS_le B d6 hbt.rr
    have h2 := hH_pos d6
    have h3 : inS B d6 = nN B + hH d6 + (nE B - nN B) := rfl
    have h4 := hbt.len
    have h5 := hbt.e
    have h6 := hbt.m
    have h7 := hbt.n
    rw [List.length_replicate] at h4
    rw [hW.len]; omega
  obtain ⟨bi, hbi⟩ : ∃ x : Nat, x = (bit % 8).toNat := ⟨_, rfl⟩
  have hbe : bit % 8 = (bi : Int) := by omega
  have hbl : bi < 8 := by omega
  obtain ⟨jj, hjj⟩ : ∃ x : Nat, x = (at0 % 8).toNat := ⟨_, rfl⟩
  have hje : at0 % 8 = (jj : Int) := by omega
  have hjl : jj < 8 := by omega
  have hn14 : nN B = 14 := hbt.n
  have ho1 := odd_more (v := d6) (O := D16 150) (D := D16 1) (List.replicate k 0) hbt.rr (D16_len _) (D16_len _) (D16_v _ _) (D16_v _ _) (by omega) (by simp; omega) (by simp; omega)
  have ho2 := odd_turn (v := d6) (O := D16 150) (D := D16 1) jj bi hbt.rr (D16_len _) (D16_len _) b5 b1 (D16_v _ _) (D16_v _ _) (by omega) hn14 hjl hbl
  obtain ⟨F, hF⟩ : ∃ F, F = inn B d6 (D16 150) (D16 1) := ⟨_, rfl⟩
  rw [← hF] at C1 hFl hlF ho1 ho2
  obtain ⟨hlF, hlF2⟩ := hlF
  have C2 := Lib.hid (fun W z (h : Rd W z (nus .u8 (F ++ List.replicate k 0))) => out_not z (F ++ List.replicate k 0) W h (fun c hc => by
    rcases List.mem_append.1 hc with h | h
    · exact hFl c h
    · have := List.eq_of_mem_replicate h; omega) (by rw [List.length_append, List.length_replicate]; omega) ho1)
  have C3 := Lib.hid (fun W z (h : Rd W z (nus .u8 (turn F (14 + jj) bi))) => out_not z (turn F (14 + jj) bi) W h (turn_lt F _ bi hFl hbl) (by rw [turn_len]; omega) ho2)
  have CR1 := Lib.hid (fun W => round_any at0 8 W (by omega) (by omega))
  have CR2 := Lib.hid (fun W => round_any bit 8 W (by omega) (by omega))
  rw [hje] at CR1
  rw [hbe] at CR2
  obtain ⟨ii, hii⟩ : ∃ x, x = 14 + jj := ⟨_, rfl⟩
  rw [← hii] at C3
  have ty := getD_lt F hFl ii
  have xv2 := Lib.hid (xor_val' (F.getD ii 0) bi ty hbl)
  have eC2 : Hid (F.set ii (F.getD ii 0 ^^^ 2 ^ bi) = turn F ii bi) := rfl
  obtain ⟨y2, hy2⟩ : ∃ y, y = F.getD ii 0 := ⟨_, rfl⟩
  rw [← hy2] at ty xv2 eC2
  have HY2 := Lib.hid hy2
  obtain ⟨x2, hx2⟩ : ∃ y, y = y2 ^^^ 2 ^ bi := ⟨_, rfl⟩
  rw [← hx2] at xv2 eC2
  obtain ⟨lf, hlf⟩ : ∃ x, x = F.length := ⟨_, rfl⟩
  rw [← hlf] at hlF hlF2
  have HLF := Lib.hid hlf
  have wii : IntKind.i64.wrap (14 + (jj : Int)) = (ii : Int) := by rw [IntKind.wrap_i64]; omega
  have hil : ii < 22 := by omega
  have Y0 : Hid (z17.size = Array.size (Zc17 : Array Value)) := rfl
  have Q0 := Lib.hid (i24.trans (congrArg some (show 17 = z17.size from rfl)))
  have A0 := Lib.hid z17_all
  have HR := Lib.hid hr
  have d1 : decide ((la : Int) > 200) = false := by rw [decide_eq_false_iff_not]; omega
  have d2 : decide ((k : Int) < 1) = false := by rw [decide_eq_false_iff_not]; omega
  have d3 : decide ((k : Int) > 20) = false := by rw [decide_eq_false_iff_not]; omega
  have d4 : decide ((lf : Int) < 60) = false := by rw [decide_eq_false_iff_not]; omega
  have d5 : ¬ lf < 60 := by omega
  have d6' : decide (lf < 60) = false := decide_eq_false d5
  clear hr hL hna hb hB hbt hBl hm hs s1 b5 b1 hW hFl hF hu hbi hbe hjj hje hn14 ho1 ho2 hy2 hx2 hlf hii hlB hlB2
  unfold adr at CO4 CO6 C1
  generalize turn F ii bi = CC at *
  generalize cellsA d6 (D16 1) = A1 at *
  generalize cellsA false (D16 150) = A4 at *
  generalize cellsA true (D16 150) = A6 at *
  generalize flow u v6 true = kc at *
  generalize dcells A1 8001 = dc at *
  go_enter Try.func4, Try.ntmps4
  go_wp2_with fail
  refine (CK.out w).mono ?_
  rintro e V1 ⟨rfl, hy⟩
  replace K := Lib.hid (K.out.trans (hy.mono K.out.size))
  clear hy
  go_wp2_with fail
  refine (CB.out V1 (HR.out.below K.out)).mono ?_
  rintro e V2 ⟨gb, cb, rfl, ob, hy⟩
  replace K := Lib.hid (K.out.trans (hy.mono K.out.size))
  have RB := Lib.hid (Rd.own ob)
  clear ob
  clear hy
  go_wp2_with fail
  refine (CO4.out V2).mono ?_
  rintro e V3 ⟨rfl, hy⟩
  replace K := Lib.hid (K.out.trans (hy.mono K.out.size))
  replace RB := Lib.hid (RB.out.below hy)
  clear hy
  go_wp2_with fail
  refine (CO6.out V3).mono ?_
  rintro e V4 ⟨rfl, hy⟩
  replace K := Lib.hid (K.out.trans (hy.mono K.out.size))
  replace RB := Lib.hid (RB.out.below hy)
  clear hy
  go_wp2_with fail
  refine (CD.out V4).mono ?_
  rintro e V5 ⟨rfl, hy⟩
  replace K := Lib.hid (K.out.trans (hy.mono K.out.size))
  replace RB := Lib.hid (RB.out.below hy)
  clear hy
  go_wp2_with (((with_reducible refine wpList_field_want (op := ⟨some 49, .field 33 (.tmp 48) 0, _, _, _, _⟩) ?wg1 33 (.tmp 48) 0 ?wo1 (.agg dc) (.agg A1) ?wx1 (F1.out _) ?_); (case wg1 => rfl); (case wo1 => rfl); (case wx1 => rfl)))
  refine (C1.out V5 _ RB.out).mono ?_
  rintro e V6 ⟨x1, rfl, rx, hy⟩
  replace K := Lib.hid (K.out.trans (hy.mono K.out.size))
  replace RB := Lib.hid (RB.out.below hy)
  have RX := Lib.hid (rx)
  clear rx
  obtain ⟨ax, cx, ex, hcx, hcx2⟩ := rd_shape RX.out
  rw [← HLF.out] at ex hcx
  subst ex
  obtain ⟨bx, ox, rfl, -⟩ := RX.out.cells (by omega)
  clear hy
  go_upto_region 7 with fail
  have L := Lib.hid (Below.refl V6.heap.size V6)
  have hal := (Below.refl V6.heap.size V6).alloc (Nat.le_refl _) (.cells #[] 5)
  have O := Lib.hid (own_low (b1 := V6.heap.size) L.out.size (own_none V6 5))
  replace L := Lib.hid (L.out.trans (hal.mono L.out.size))
  clear hal
  go_wp2_with ((at_builtin; refine wpList_app rfl (.tmp 61) (.tmp 62) rfl V6.heap.size _ (0) [] rfl O.out (some ⟨bx, ox, none⟩) (lf) (cx) F rfl (RX.out.below L.out) (by intro e; cases e) ?ap2b ?ap2c ?ap2d))
  case ap2b => omega
  case ap2c => first | exact L.out.size | (have q := L.out.size; simp only [World.size_alloc] at q; exact q)
  intro vx V7 oz gz
  replace L := Lib.hid (L.out.grown gz L.out.size (fun k e => by first | exact (O.out.lt k e).1 | (cases e; first | exact Nat.le_refl _ | omega)))
  have oz : V7.ownsRow V6.heap.size 5 1 vx (lf) (nus .u8 (F)) := by first | exact oz | simpa using oz
  replace O := Lib.hid oz
  obtain ⟨g1, c1, rfl, hc1, hc1m, hg1, hg1u⟩ := own_at O.out (by omega)
  clear oz gz
  go_wp2_with (((with_reducible refine wpList_zerosN ?zg901 (.tmp 63) (.tmp 64) k ?zo901 ?zx901 V6.heap.size g1 (lf) c1 _ ?zs901 O.out ?za901 ?zc901 ?_); (case zg901 => rfl); (case zo901 => rfl); (case zx901 => rfl); (case zs901 => rfl); (case za901 => omega); (case zc901 => exact L.out.size)))
  intro vx V8 oz gz
  replace L := Lib.hid (L.out.grown gz L.out.size (fun k e => by first | exact (O.out.lt k e).1 | (cases e; first | exact Nat.le_refl _ | omega)))
  have oz : V8.ownsRow V6.heap.size 5 1 vx (lf + k) (nus .u8 (F ++ List.replicate k 0)) := by first | exact oz | simpa using oz
  replace O := Lib.hid oz
  obtain ⟨g2, c2, rfl, hc2, hc2m, hg2, hg2u⟩ := own_at O.out (by omega)
  clear oz gz
  have hy := L.out
  replace K := Lib.hid (K.out.trans (hy.mono K.out.size))
  replace RB := Lib.hid (RB.out.below hy)
  replace RX := Lib.hid (RX.out.below hy)
  clear hy L
  have OR := Lib.hid (Rd.own O.out)
  clear O
  go_wp2_with fail
  refine (C2.out V8 _ OR.out).mono ?_
  rintro e V9 ⟨y1, rfl, hy⟩
  replace K := Lib.hid (K.out.trans (hy.mono K.out.size))
  replace RB := Lib.hid (RB.out.below hy)
  replace RX := Lib.hid (RX.out.below hy)
  replace OR := Lib.hid (OR.out.below hy)
  clear hy
  go_wp2_with (((with_reducible refine wpList_blk_store (op := ⟨none, .store 27 (.tmp 19) (.tmp 68), _, _, _, _⟩) ?sg3 27 (.tmp 19) (.tmp 68) ?so3 (V9.heap.size) z17 ?sx3 ?sy3 (Blk.new V9 27 Zc17) Y0.out Q0.out A0.out ?_); (case sg3 => rfl); (case so3 => rfl); (case sx3 => rfl); (case sy3 => rfl)))
  intro V10 hA hF hB
  have hy := ((Below.refl V9.heap.size V9).alloc (Nat.le_refl _) (.cells Zc17 27)).trans (hB _ (Nat.le_refl _))
  replace K := Lib.hid (K.out.trans (hy.mono K.out.size))
  replace RB := Lib.hid (RB.out.below hy)
  replace RX := Lib.hid (RX.out.below hy)
  replace OR := Lib.hid (OR.out.below hy)
  have NZ := Lib.hid hA
  clear hA hF hB hy
  go_upto_region 8 with fail
  have hKV : w.heap.size ≤ V10.heap.size := K.out.size
  have L := Lib.hid (Below.refl V10.heap.size V10)
  have hal := (Below.refl V10.heap.size V10).alloc (Nat.le_refl _) (.cells #[] 5)
  have O := Lib.hid (own_low (b1 := V10.heap.size) L.out.size (own_none V10 5))
  replace L := Lib.hid (L.out.trans (hal.mono L.out.size))
  clear hal
  go_wp2_with ((at_builtin; refine wpList_app rfl (.tmp 70) (.tmp 71) rfl V10.heap.size _ (0) [] rfl O.out (some ⟨bx, ox, none⟩) (lf) (cx) F rfl (RX.out.below L.out) (by intro e; cases e) ?ap4b ?ap4c ?ap4d))
  case ap4b => omega
  case ap4c => first | exact L.out.size | (have q := L.out.size; simp only [World.size_alloc] at q; exact q)
  intro vx V11 oz gz
  replace L := Lib.hid (L.out.grown gz L.out.size (fun k e => by first | exact (O.out.lt k e).1 | (cases e; first | exact Nat.le_refl _ | omega)))
  have oz : V11.ownsRow V10.heap.size 5 1 vx (lf) (nus .u8 (F)) := by first | exact oz | simpa using oz
  replace O := Lib.hid oz
  obtain ⟨gc, cc, rfl, hcc, hccm, hgc, hgcu⟩ := own_at O.out (by omega)
  clear oz gz
  have hy := L.out
  replace K := Lib.hid (K.out.trans (hy.mono K.out.size))
  replace RB := Lib.hid (RB.out.below hy)
  replace RX := Lib.hid (RX.out.below hy)
  replace OR := Lib.hid (OR.out.below hy)
  replace NZ := Lib.hid (NZ.out.below hy NZ.out.lt)
  clear hy L
  go_wp2_with fail
  refine (CR1.out _).mono ?_
  rintro e V12 ⟨rfl, rfl⟩
  go_wp2_with fail
  go_wp2_with fail
  refine wp_region_still_tail 9 (by kernel_rfl) (by kernel_rfl) ?_
  change wpStill _ _ V11.drew (fun a' => wpList _ _ _ _ a' V11.drew) _ _
  have hy := (Below.refl V11.heap.size V11).drew
  replace K := Lib.hid (K.out.trans (hy.mono K.out.size))
  replace O := Lib.hid (row_under O.out hy)
  clear hy
  generalize V11.drew = V13 at *
  have c2 := O.out.cellAt ii (by omega)
  rw [nus_get _ _ _ (by rw [← HLF.out]; omega), ← HY2.out] at c2
  have f2 := O.out.frozenAt ii
  have b2 : (0 : Int) ≤ (ii : Int) ∧ (ii : Int) < (lf : Int) := by omega
  simp only [List.take_succ_cons, List.take_zero, List.drop_succ_cons, List.drop_zero]
  still_step
  still_step
  still_step
  still_step
  still_step
  still_call ((CR2.out _).mono fun e w' h => ⟨h.1, h.2.symm⟩)
  still_step
  still_step
  still_step
  refine wpStill_nil ?_
  try simp only [Act.put, tS1, tS2, tS3]
  go_upto_region 11 with fail
  rw [xv2.out]
  have hst := O.out.stored ii (.int .u8 (x2 : Int))
  rw [nus_set, eC2.out] at hst
  have gr : V13.grownBy (V13.setCell ⟨gc, ii, none⟩ (.int .u8 (x2 : Int))) (some gc) := hst.2
  replace K := Lib.hid (K.out.grown gr K.out.size (fun k e => by cases e; exact Nat.le_trans hKV hgc))
  replace O := Lib.hid hst.1
  clear c2 f2 b2 hst gr xv2 eC2 HY2
  generalize V13.setCell ⟨gc, ii, none⟩ (.int .u8 (x2 : Int)) = V14 at K O ⊢
  have OR := Lib.hid (Rd.own O.out)
  clear O
  go_wp2_with fail
  refine (C3.out V14 _ OR.out).mono ?_
  rintro e V15 ⟨y2, rfl, hy⟩
  replace K := Lib.hid (K.out.trans (hy.mono K.out.size))
  replace OR := Lib.hid (OR.out.below hy)
  clear hy
  go_wp2_with (((with_reducible refine wpList_blk_store (op := ⟨none, .store 27 (.tmp 24) (.tmp 89), _, _, _, _⟩) ?sg5 27 (.tmp 24) (.tmp 89) ?so5 (V15.heap.size) z17 ?sx5 ?sy5 (Blk.new V15 27 Zc17) Y0.out Q0.out A0.out ?_); (case sg5 => rfl); (case so5 => rfl); (case sx5 => rfl); (case sy5 => rfl)))
  intro V16 hA hF hB
  have hy := ((Below.refl V15.heap.size V15).alloc (Nat.le_refl _) (.cells Zc17 27)).trans (hB _ (Nat.le_refl _))
  replace K := Lib.hid (K.out.trans (hy.mono K.out.size))
  replace OR := Lib.hid (OR.out.below hy)
  have NY := Lib.hid hA
  clear hA hF hB hy
  go_wp2_with fail
  refine (HA.out V16).mono ?_
  rintro e V17 ⟨rfl, hy⟩
  replace K := Lib.hid (K.out.trans (hy.mono K.out.size))
  replace OR := Lib.hid (OR.out.below hy)
  replace NY := Lib.hid (NY.out.below hy NY.out.lt)
  clear hy
  go_wp2
  go_ret
  exact ⟨rfl, K.out⟩
set_option maxRecDepth 100000 in
set_option maxHeartbeats 1000000 in
theorem odd_walk (n : Int) (v6 : Bool) (a : Option Addr) (la ca : Nat) (zs : List Nat) (d6 : Bool) (at0 bit more : Int) (w : World) (hr : Rd w (.slice a la ca) (nus .u8 zs)) (hL : zs.length = la) (hna : a = none → ca = 0) (hb : ∀ c ∈ zs, c < 256) :
    Calls Try.prog 4 #[.int .i64 n, .bool v6, .slice a la ca, .bool d6, .int .i64 at0, .int .i64 bit, .int .i64 more] w fun e w' => e = .returned (.bool true) ∧ Below w.heap.size w w' := by
  by_cases h : 200 < la ∨ more < 1 ∨ 20 < more
  · have HA := Lib.hid (fun W => awake_any W)
    clear hr hL hna hb
    by_cases h1 : 200 < la
    · clear h
      go_enter Try.func4, Try.ntmps4
      go_wp2_with fail
      refine (HA.out _).mono ?_
      rintro e w2 ⟨rfl, hy⟩
      go_wp2
      go_ret
      exact ⟨rfl, hy⟩
    · by_cases h2 : more < 1
      · clear h
        go_enter Try.func4, Try.ntmps4
        go_wp2_with fail
        refine (HA.out _).mono ?_
        rintro e w2 ⟨rfl, hy⟩
        go_wp2
        go_ret
        exact ⟨rfl, hy⟩
      · have h3 : 20 < more := by omega
        clear h
        go_enter Try.func4, Try.ntmps4
        go_wp2_with fail
        refine (HA.out _).mono ?_
        rintro e w2 ⟨rfl, hy⟩
        go_wp2
        go_ret
        exact ⟨rfl, hy⟩
  · obtain ⟨k, rfl⟩ := Int.eq_ofNat_of_zero_le (show 0 ≤ more by omega)
    exact odd_main n v6 d6 a la ca zs at0 bit k w hr hL hna hb (by omega) (by omega) (by omega)
end Go.Proofs.Ytnpibdjfafpegaa
