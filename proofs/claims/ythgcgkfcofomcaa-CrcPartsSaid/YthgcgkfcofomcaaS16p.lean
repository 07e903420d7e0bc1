/- CrcParts' walk. -/
import Derived.Test.YthgcgkfcofomcaaS16l
import Derived.StillTailTactics
import Derived.LoopTactic
import Derived.Handy
import Derived.Deep.CutBlock
import Derived.Deep.DeepCutAuto
namespace Go.Proofs.Ythgcgkfcofomcaa
open Go.RowKit Go.Lib

theorem crx_own {w : World} {base n : Nat} {e : TypeId} {v : Value} {xs : List Value} (h : w.ownsRow base e 1 v n xs) (h0 : 0 < n) : ∃ g cap, v = .slice (some ⟨g, 0, none⟩) n cap ∧ n ≤ cap ∧ cap ≤ maxLen ∧ base ≤ g ∧ g < w.heap.size := by
  rcases h.2 with ⟨-, h1⟩ | ⟨g, cap, cur, rfl, hg, h2, hnc, hcm, _⟩
  · omega
  · exact ⟨g, cap, rfl, hnc, hcm, hg, (Array.getElem?_eq_some_iff.1 h2).1⟩
theorem crx_shape {w : World} {base n : Nat} {e : TypeId} {v : Value} {xs : List Value} (h : w.ownsRow base e 1 v n xs) : ∃ a cap, v = .slice a n cap := by
  rcases h.2 with ⟨h1, h2⟩ | ⟨g, cap, cur, rfl, _⟩
  · exact ⟨none, 0, by rw [h1, h2]⟩
  · exact ⟨_, _, rfl⟩
theorem crx_pow : ∀ t : Fin 8, 1 ≤ 2 ^ t.1 ∧ 2 ^ t.1 ≤ 128 := by decide
theorem crx_xor (y t : Nat) (hy : y < 256) (ht : t < 8) : bits .xor .u8 (y : Int) ((2 : Int) ^ t % 256) = ((y ^^^ 2 ^ t : Nat) : Int) := by
  have hp := (crx_pow ⟨t, ht⟩).2
  simp only at hp
  have e : (2 : Int) ^ t = ((2 ^ t : Nat) : Int) := by simp
  have hm : ((2 ^ t : Nat) : Int) % 256 = ((2 ^ t : Nat) : Int) := by
    generalize (2 ^ t : Nat) = p at hp
    omega
  rw [← u8_xor_nat y (2 ^ t) hy (by omega), e, hm]
theorem crx_lt (y t : Nat) (hy : y < 256) (ht : t < 8) : y ^^^ 2 ^ t < 256 := Nat.xor_lt_two_pow (n := 8) hy (by have := (crx_pow ⟨t, ht⟩).2; simp only at this; omega)
theorem crx_set_lt (B : List Nat) (i z : Nat) (hB : ∀ c ∈ B, c < 256) (hz : z < 256) : ∀ c ∈ B.set i z, c < 256 := by
  intro c hc
  rcases List.mem_or_eq_of_mem_set hc with h | h
  · exact hB c h
  · omega
theorem crx_nus (k : IntKind) (zs : List Nat) (i n : Nat) : (nus k zs).set i (.int k (n : Int)) = nus k (zs.set i n) := by simp [nus, List.map_set]
set_option maxRecDepth 100000 in
set_option maxHeartbeats 4000000 in
theorem parts_walk (n : Int) (s : Nat) (hs : s < 4294967296) (ax ay : Option Addr) (cx cy : Nat) (xs ys : List Nat) (hbx : ∀ c ∈ xs, c < 256) (hby : ∀ c ∈ ys, c < 256) (at0 bit : Int) (w : World)
    (hvx : Rd w (.slice ax xs.length cx) (nus .u8 xs)) (hvy : Rd w (.slice ay ys.length cy) (nus .u8 ys)) (hnx : ax = none → cx = 0) (hny : ay = none → cy = 0) :
    Calls Try.prog 4 #[.int .i64 n, .int .u32 (s : Int), .slice ax xs.length cx, .slice ay ys.length cy, .int .i64 at0, .int .i64 bit] w fun e w' => e = .returned (.bool true) ∧ Below w.heap.size w w' := by
  obtain ⟨ZL, hZL⟩ : ∃ Z, Z = List.replicate 256 0 := ⟨_, rfl⟩
  have z26 : ∀ W, (zeroValue 26).run Try.prog W = .ok (.agg (tcs ZL)) W := by rw [hZL]; exact zero26
  have hl : ZL.length = 256 := by rw [hZL]; exact List.length_replicate
  clear hZL
  have HL := Lib.hid hl
  have K := Lib.hid (Below.refl w.heap.size w)
  have CK := Lib.hid known_any
  have CA := Lib.hid awake_any
  by_cases h1 : 300 < xs.length
  · have f1a : decide ((300 : Int) < (xs.length : Int)) = true := decide_eq_true (by omega)
    have f1b : decide (300 < xs.length) = true := decide_eq_true (by omega)
    have f1c : 300 < xs.length := by omega
    go_enter Try.func4, Try.ntmps4
    go_wp2_with fail
    refine (CK.out w).mono ?_
    rintro e V1 ⟨rfl, hB, hy⟩
    have K1 := Lib.hid hy
    clear hB hy
    go_wp2_with fail
    refine (CA.out V1).mono ?_
    rintro e V2 ⟨rfl, hy⟩
    go_wp2
    go_ret
    exact ⟨rfl, K1.out.trans (hy.mono K1.out.size)⟩
  by_cases h3 : 300 < ys.length
  · have f1a : decide ((300 : Int) < (xs.length : Int)) = false := decide_eq_false (by omega)
    have f1b : decide (300 < xs.length) = false := decide_eq_false (by omega)
    have f1c : ¬ 300 < xs.length := by omega
    have f3a : decide ((300 : Int) < (ys.length : Int)) = true := decide_eq_true (by omega)
    have f3b : decide (300 < ys.length) = true := decide_eq_true (by omega)
    have f3c : 300 < ys.length := by omega
    go_enter Try.func4, Try.ntmps4
    go_wp2_with fail
    refine (CK.out w).mono ?_
    rintro e V1 ⟨rfl, hB, hy⟩
    have K1 := Lib.hid hy
    clear hB hy
    go_wp2_with fail
    refine (CA.out V1).mono ?_
    rintro e V2 ⟨rfl, hy⟩
    go_wp2
    go_ret
    exact ⟨rfl, K1.out.trans (hy.mono K1.out.size)⟩
  have f1a : decide ((300 : Int) < (xs.length : Int)) = false := decide_eq_false (by omega)
  have f1b : decide (300 < xs.length) = false := decide_eq_false (by omega)
  have f1c : ¬ 300 < xs.length := by omega
  have f3a : decide ((300 : Int) < (ys.length : Int)) = false := decide_eq_false (by omega)
  have f3b : decide (300 < ys.length) = false := decide_eq_false (by omega)
  have f3c : ¬ 300 < ys.length := by omega
  clear h1 h3
  have hlx : xs.length ≤ 300 := by omega
  have hly : ys.length ≤ 300 := by omega
  obtain ⟨hj1, hj2⟩ := round_nat n 4 (by decide)
  generalize hjj : (n % ((4 : Nat) : Int)).toNat = m at hj1 hj2
  have hj1' : n % 4 = (m : Int) := hj1
  have CR4 := Lib.hid (fun W => round_any n 4 W (by decide) (by decide))
  rw [hj1'] at CR4
  obtain ⟨hp1, hp⟩ := knownC_hi m hj2
  have CC4 := Lib.hid (tcs_at knownC m (show m < knownC.length from hj2))
  generalize knownC.getD m 0 = p at CC4 hp1 hp
  have CM := Lib.hid (fun W => make_any p hp W)
  have Xx := Lib.hid hvx
  have Xy := Lib.hid hvy
  have hbl : ∀ c ∈ xs ++ ys, c < 256 := fun c hc => (List.mem_append.1 hc).elim (hbx c) (hby c)
  obtain ⟨N, hN⟩ : ∃ N, N = xs.length + ys.length := ⟨_, rfl⟩
  have hLN : (xs ++ ys).length = N := by rw [List.length_append, hN]
  have C1 := Lib.hid (fun a cap W h => of_any p s hp hs (.slice a N cap) (xs ++ ys) hbl W h)
  have l2 := crcC_lt p s xs hp hs hbx
  have C2 := Lib.hid (fun W h => of_any p s hp hs (.slice ax xs.length cx) xs hbx W h)
  have C3 := Lib.hid (fun W h => of_any p (crcC p s xs) hp l2 (.slice ay ys.length cy) ys hby W h)
  rw [← crcC_parts] at C3
  have HNIL := Lib.hid (fun (h : xs ++ ys = []) => (congrArg (crcC p s) h).trans (crcC_nil p s))
  have HBIT := Lib.hid (fun k x hk hx hx2 => crcC_bit p s (xs ++ ys) k x hp1 hp hk hx hx2)
  have C4 := Lib.hid (fun (g cap i z : Nat) (hz : z < 256) W h => of_any p s hp hs (.slice (some ⟨g, 0, none⟩) N cap) ((xs ++ ys).set i z) (crx_set_lt _ i z hbl hz) W h)
  have HBL := Lib.hid (fun k => getD_lt _ hbl k)
  have Q4 := Lib.hid (fun i z (hz : z < 256) => crcC_lt p s _ hp hs (crx_set_lt _ i z hbl hz))
  have HZ4 := Lib.hid (fun i z => (show ∃ q, q = crcC p s ((xs ++ ys).set i z) from ⟨_, rfl⟩))
  generalize crcC p s (xs ++ ys) = q1 at *
  generalize crcC p s xs = q2 at *
  have HN := Lib.hid hN
  have HLN := Lib.hid hLN
  have HNX := Lib.hid hnx
  have HNY := Lib.hid hny
  have TA := Lib.hid (fun j (h : j < 256) => (tcs_at (tabL p) j (by rw [tabL_len]; exact h)).trans (by rw [tabL_at _ _ h]))
  have SZ := Lib.hid (tabL_len p)
  have hS : Hid ((tcs (tabL p)).size = (tcs ZL).size) := by show _ = _; rw [tcs_size, tcs_size, SZ.out, HL.out]
  have hI := Lib.hid (info26 (tabL p) SZ.out)
  have hO := Lib.hid (tcs_one (tabL p))
  generalize tabL p = T at *
  clear TA hl hj1 hj1' hjj hvx hvy l2 hby hbx hbl hp1 hN hLN hnx hny
  go_enter Try.func4, Try.ntmps4
  go_wp2_with fail
  refine (CK.out w).mono ?_
  rintro e V1 ⟨rfl, hB, hy⟩
  replace K := Lib.hid (K.out.trans (hy.mono K.out.size))
  replace Xx := Lib.hid (Xx.out.below hy)
  replace Xy := Lib.hid (Xy.out.below hy)
  have B := Lib.hid (hB)
  clear hB
  clear hy
  have c0 : V1.cell? ⟨w.heap.size, m, none⟩ = some (.int .u32 (p : Int)) := (B.out.cell m).trans CC4.out
  go_wp2_with fail
  refine (CR4.out V1).mono ?_
  rintro e V2 ⟨rfl, rfl⟩
  go_wp2_with fail
  refine (CM.out V1).mono ?_
  rintro e V3 ⟨rfl, hy⟩
  replace K := Lib.hid (K.out.trans (hy.mono K.out.size))
  replace Xx := Lib.hid (Xx.out.below hy)
  replace Xy := Lib.hid (Xy.out.below hy)
  replace B := Lib.hid (B.out.below hy B.out.lt)
  clear hy
  go_wp2_with (((with_reducible refine wpList_blk_store (op := ⟨none, .store 26 (.tmp 14) (.tmp 42), _, _, _, _⟩) ?sg1 26 (.tmp 14) (.tmp 42) ?so1 (V3.heap.size) (tcs T) ?sx1 ?sy1 (Blk.new V3 26 (tcs ZL)) hS.out hI.out hO.out ?_); (case sg1 => rfl); (case so1 => rfl); (case sx1 => rfl); (case sy1 => rfl)))
  intro V4 hA hF hB
  have hy := ((Below.refl V3.heap.size V3).alloc (Nat.le_refl _) (.cells (tcs ZL) 26)).trans (hB _ (Nat.le_refl _))
  replace K := Lib.hid (K.out.trans (hy.mono K.out.size))
  replace Xx := Lib.hid (Xx.out.below hy)
  replace Xy := Lib.hid (Xy.out.below hy)
  replace B := Lib.hid (B.out.below hy B.out.lt)
  have NT := Lib.hid hA
  clear hA hF hB hy
  clear c0
  clear B
  generalize hg2 : V3.heap.size = g2 at *
  clear hg2
  have L := Lib.hid (Below.refl V4.heap.size V4)
  have hal := (Below.refl V4.heap.size V4).alloc (Nat.le_refl _) (.cells #[] 5)
  have O := Lib.hid (own_low (b1 := V4.heap.size) L.out.size (own_none V4 5))
  replace L := Lib.hid (L.out.trans (hal.mono L.out.size))
  clear hal
  have hg2b : g2 < V4.heap.size := NT.out.lt
  have gw := K.out.size
  go_wp2_with ((at_builtin; refine wpList_app rfl (.tmp 43) (.tmp 44) rfl V4.heap.size _ (0) [] rfl O.out ax (xs.length) cx xs rfl (Xx.out.below L.out) HNX.out ?ap1b ?ap1c ?ap1d))
  case ap1b => omega
  case ap1c => first | exact L.out.size | (have q := L.out.size; simp only [World.size_alloc] at q; exact q)
  intro vx V5 oz gz
  replace L := Lib.hid (L.out.grown gz L.out.size (fun k e => by first | exact (O.out.lt k e).1 | (cases e; first | exact Nat.le_refl _ | omega)))
  replace oz : V5.ownsRow V4.heap.size 5 1 vx (xs.length) (nus .u8 (xs)) := by first | exact oz | simpa using oz
  replace O := Lib.hid oz
  clear oz gz
  go_wp2_with ((at_builtin; refine wpList_app rfl (.tmp 45) (.tmp 46) rfl V4.heap.size _ (xs.length) xs rfl O.out ay (ys.length) cy ys rfl (Xy.out.below L.out) HNY.out ?ap2b ?ap2c ?ap2d))
  case ap2b => omega
  case ap2c => first | exact L.out.size | (have q := L.out.size; simp only [World.size_alloc] at q; exact q)
  intro vx V6 oz gz
  replace L := Lib.hid (L.out.grown gz L.out.size (fun k e => by first | exact (O.out.lt k e).1 | (cases e; first | exact Nat.le_refl _ | omega)))
  replace oz : V6.ownsRow V4.heap.size 5 1 vx (xs.length + ys.length) (nus .u8 (xs ++ ys)) := by first | exact oz | simpa using oz
  replace O := Lib.hid oz
  clear oz gz
  rw [← HN.out] at O
  have hy := L.out
  replace K := Lib.hid (K.out.trans (hy.mono K.out.size))
  replace Xx := Lib.hid (Xx.out.below hy)
  replace Xy := Lib.hid (Xy.out.below hy)
  replace NT := Lib.hid (NT.out.below hy NT.out.lt)
  clear hy L
  obtain ⟨ac, cc, rfl⟩ := crx_shape O.out
  have X := Lib.hid (Rd.own O.out)
  have L2 : (loadVar 26 ⟨g2, 0, none⟩).run Try.prog V6 = .ok (.agg (tcs T)) V6 := run_blk_load (P := Try.prog) 26 (g2) _ NT.out Try.underlying26 rfl hI.out
  replace L2 := Lib.hid L2
  go_wp2_with (((with_reducible refine wpList_load_want (op := ⟨some 48, .load 26 (.tmp 14), _, _, _, _⟩) ?wg2 26 (.tmp 14) ?wo2 ⟨g2, 0, none⟩ ?wx2 (.agg (tcs T)) L2.out ?_); (case wg2 => rfl); (case wo2 => rfl); (case wx2 => rfl)))
  clear L2
  refine (C1.out ac cc V6 X.out).mono ?_
  rintro e V7 ⟨rfl, hy⟩
  replace K := Lib.hid (K.out.trans (hy.mono K.out.size))
  replace Xx := Lib.hid (Xx.out.below hy)
  replace Xy := Lib.hid (Xy.out.below hy)
  replace NT := Lib.hid (NT.out.below hy NT.out.lt)
  replace O := Lib.hid (row_under O.out hy)
  replace X := Lib.hid (X.out.below hy)
  clear hy
  go_wp2_with fail
  refine wp_region_held (S := (fun w' : World => Below (V7.heap.size) V7 w')) (by kernel_rfl) ?_
  change wpAnyH _ _ _ _ _ _ _ _ V7.drew
  have hy : Below V7.heap.size V7 V7.drew := (Below.refl _ _).drew
  have hE0 : Below (V7.heap.size) V7 V7.drew := (Below.refl _ _).drew
  clear hy
  generalize V7.drew = Y7x0 at hE0  ⊢
  have E0 := Lib.hid hE0
  clear hE0
  refine tkA 0 (?_) ?_ E0.out ?_
  rotate_left
  · (intro w1 hS; go_simp; try with_reducible rfl)
  simp only [Act.put, tS1, tS2, tS3]
  refine tkA 1 (.agg (tcs T)) ?_ E0.out ?_
  · (intro w1 hS; have hW := hS; exact exec_load 26 (.tmp 14) rfl _ rfl _ (run_blk_load (P := Try.prog) 26 (g2) _ (NT.out.below hW NT.out.lt) Try.underlying26 rfl hI.out))
  simp only [Act.put, tS1, tS2, tS3]
  refine tkA 2 (.agg (tcs T)) ?_ E0.out ?_
  · (intro w1 hS; have hW := hS; exact exec_load 26 (.tmp 14) rfl _ rfl _ (run_blk_load (P := Try.prog) 26 (g2) _ (NT.out.below hW NT.out.lt) Try.underlying26 rfl hI.out))
  simp only [Act.put, tS1, tS2, tS3]
  refine tkA 3 (?_) ?_ E0.out ?_
  rotate_left
  · (intro w1 hS; go_simp; try with_reducible rfl)
  simp only [Act.put, tS1, tS2, tS3]
  refine tkA 4 (?_) ?_ E0.out ?_
  rotate_left
  · (intro w1 hS; go_simp; try with_reducible rfl)
  simp only [Act.put, tS1, tS2, tS3]
  refine tkA 6 (?_) ?_ E0.out ?_
  rotate_left
  · (intro w1 hS; go_simp; try with_reducible rfl)
  simp only [Act.put, tS1, tS2, tS3]
  refine tkO 5 (fun KK hK => ?_)
  go_simp
  refine (C2.out Y7x0 (Xx.out.below E0.out)).mono ?_
  rintro e Y7x1 ⟨rfl, hy⟩
  have E1 := Lib.hid (E0.out.trans (hy.mono E0.out.size))
  have C1 := Lib.hid E1.out
  clear hy E0
  refine hK.out _ _ C1.out (fun _ => ?_)
  clear hK KK
  refine wpAnyH_mono (S' := (fun w' : World => Below Y7x1.heap.size Y7x1 w')) (fun w1 h => C1.out.trans (h.mono C1.out.size)) _ _ _ _ ?_
  clear C1
  try simp only [Act.put, tS1, tS2, tS3]
  refine tkO 7 (fun KK hK => ?_)
  go_simp
  refine (C3.out Y7x1 (Xy.out.below E1.out)).mono ?_
  rintro e Y7x2 ⟨rfl, hy⟩
  have E2 := Lib.hid (E1.out.trans (hy.mono E1.out.size))
  have C2 := Lib.hid hy
  clear hy E1
  refine hK.out _ _ C2.out (fun _ => ?_)
  clear hK KK
  refine wpAnyH_mono (S' := (fun w' : World => Below Y7x2.heap.size Y7x2 w')) (fun w1 h => C2.out.trans (h.mono C2.out.size)) _ _ _ _ ?_
  clear C2
  try simp only [Act.put, tS1, tS2, tS3]
  refine tkA 8 (?_) ?_ (Below.refl _ _) ?_
  rotate_left
  · (intro w1 hS; go_simp; try with_reducible rfl)
  simp only [Act.put, tS1, tS2, tS3]
  refine wpAnyH_done (by kernel_rfl) ?_ _
  have hy := E2.out
  replace K := Lib.hid (K.out.trans (hy.mono K.out.size))
  replace Xx := Lib.hid (Xx.out.below hy)
  replace Xy := Lib.hid (Xy.out.below hy)
  replace NT := Lib.hid (NT.out.below hy NT.out.lt)
  replace O := Lib.hid (row_under O.out hy)
  replace X := Lib.hid (X.out.below hy)
  clear hy E2
  by_cases h0 : N = 0
  · subst h0
    have hnil : xs ++ ys = [] := List.eq_nil_of_length_eq_zero HLN.out
    obtain rfl := HNIL.out hnil
    clear hnil
    go_wp2_with fail
    refine (CA.out Y7x2).mono ?_
    rintro e VZ ⟨rfl, hy⟩
    go_wp2
    go_ret
    exact ⟨rfl, K.out.trans (hy.mono K.out.size)⟩
  · have u1 : ((N : Int) == 0) = false := by rw [beq_eq_false_iff_ne]; omega
    have u2 : (N == 0) = false := by rw [beq_eq_false_iff_ne]; exact h0
    have u3 : decide (N = 0) = false := decide_eq_false h0
    obtain ⟨i, hi, hiN⟩ : ∃ i : Nat, at0 % (N : Int) = (i : Int) ∧ i < N := ⟨_, round_nat at0 N (by omega)⟩
    obtain ⟨j, hj, hj8⟩ : ∃ j : Nat, bit % 8 = (j : Int) ∧ j < 8 := ⟨_, round_nat bit 8 (by decide)⟩
    have hN6 : N ≤ 600 := by have q := HN.out; omega
    have R1 := Lib.hid (fun W => round_any at0 N W (by omega) (by omega))
    have R2 := Lib.hid (fun W => round_any bit 8 W (by decide) (by decide))
    rw [hi] at R1
    rw [hj] at R2
    clear hi hj HNIL C1 C2 C3
    obtain ⟨g, cap, e, hcap, hcm, hgb, hgs⟩ := crx_own O.out (by omega)
    cases e
    clear X
    clear Xx Xy
    unfold maxLen at hcm
    have hp2 := crx_pow ⟨j, hj8⟩
    simp only at hp2
    go_wp2_with fail
    go_wp2_with fail
    refine wp_region_still_tail 11 (by kernel_rfl) (by kernel_rfl) ?_
    change wpStill _ _ Y7x2.drew (fun a' => wpList _ _ _ _ a' Y7x2.drew) _ _
    have hy := (Below.refl Y7x2.heap.size Y7x2).drew
    replace K := Lib.hid (K.out.trans (hy.mono K.out.size))
    replace NT := Lib.hid (NT.out.below hy NT.out.lt)
    replace O := Lib.hid (row_under O.out hy)
    clear hy
    generalize Y7x2.drew = V8 at *
    have c3 := O.out.cellAt i (by omega)
    rw [nus_get _ _ _ (by rw [HLN.out]; exact hiN)] at c3
    have c4 := O.out.frozenAt i
    have hy := HBL.out i
    have HB := Lib.hid (HBIT.out i (2 ^ j) (by rw [HLN.out]; exact hiN) (by omega) (by omega))
    generalize (xs ++ ys).getD i 0 = y at c3 hy HB
    have xv := crx_xor y j hy hj8
    have hz := crx_lt y j hy hj8
    generalize y ^^^ 2 ^ j = z at xv hz HB
    have hst := O.out.stored i (.int .u8 (z : Int))
    rw [crx_nus] at hst
    have HST := Lib.hid hst
    have D4 := Lib.hid (fun g cap W h => C4.out g cap i z hz W h)
    have Q5 := Q4.out i z hz
    generalize hLz : (xs ++ ys).set i z = Lz at *
    generalize crcC p s Lz = q3 at *
    clear hst hLz HBIT HBL C4 Q4 HZ4 hp2
    simp only [List.take_succ_cons, List.take_zero, List.drop_succ_cons, List.drop_zero]
    still_step
    still_step
    still_step
    still_step
    still_call ((R1.out V8).mono fun e w' h => ⟨h.1, h.2.symm⟩)
    still_step
    still_step
    still_step
    still_call ((R2.out V8).mono fun e w' h => ⟨h.1, h.2.symm⟩)
    still_step
    still_step
    refine wpStill_nil ?_
    try simp only [Act.put, tS1, tS2, tS3]
    go_upto_region 12 with fail
    rw [xv]
    have gr := HST.out.2
    have O9 := Lib.hid HST.out.1
    clear HST c3 c4 xv
    clear O
    generalize V8.setCell ⟨g, i, none⟩ (.int .u8 (z : Int)) = V9 at *
    replace K := Lib.hid (K.out.grown gr K.out.size (fun k e => by first | (cases e; done) | (cases e; first | exact Nat.le_refl _ | omega)))
    replace NT := Lib.hid (show Blk _ _ _ _ from (gr.block _ NT.out.lt (by first | (simp; done) | (simp; omega))).trans NT.out)
    clear gr
    have X := Lib.hid (Rd.own O9.out)
    clear O9
    have v1 : ((q3 : Int) != (q1 : Int)) = true := by rw [bne_iff_ne]; intro e; exact HB.out (by omega)
    have v2 : (q3 == q1) = false := by rw [beq_eq_false_iff_ne]; exact HB.out
    have v3 : decide (q3 = q1) = false := decide_eq_false HB.out
    have L3 : (loadVar 26 ⟨g2, 0, none⟩).run Try.prog V9 = .ok (.agg (tcs T)) V9 := run_blk_load (P := Try.prog) 26 (g2) _ NT.out Try.underlying26 rfl hI.out
    replace L3 := Lib.hid L3
    go_wp2_with (((with_reducible refine wpList_load_want (op := ⟨some 82, .load 26 (.tmp 14), _, _, _, _⟩) ?wg3 26 (.tmp 14) ?wo3 ⟨g2, 0, none⟩ ?wx3 (.agg (tcs T)) L3.out ?_); (case wg3 => rfl); (case wo3 => rfl); (case wx3 => rfl)))
    clear L3
    refine (D4.out g cc V9 X.out).mono ?_
    rintro e V10 ⟨rfl, hy⟩
    replace K := Lib.hid (K.out.trans (hy.mono K.out.size))
    replace NT := Lib.hid (NT.out.below hy NT.out.lt)
    replace X := Lib.hid (X.out.below hy)
    clear hy
    go_wp2_with fail
    refine (CA.out V10).mono ?_
    rintro e V11 ⟨rfl, hy⟩
    replace K := Lib.hid (K.out.trans (hy.mono K.out.size))
    replace NT := Lib.hid (NT.out.below hy NT.out.lt)
    replace X := Lib.hid (X.out.below hy)
    clear hy
    go_wp2
    go_ret
    exact ⟨rfl, K.out⟩
end Go.Proofs.Ythgcgkfcofomcaa
