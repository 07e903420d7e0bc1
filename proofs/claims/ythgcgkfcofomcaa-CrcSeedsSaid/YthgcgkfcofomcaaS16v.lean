/- CrcSeeds' walk. -/
import Derived.Test.YthgcgkfcofomcaaS16u
import Derived.LoopTactic
import Derived.Handy
import Derived.Deep.CutBlock
import Derived.Deep.DeepCutAuto
namespace Go.Proofs.Ythgcgkfcofomcaa
open Go.RowKit Go.Lib

theorem seeds_same (p s t : Nat) (xs ys : List Nat) (h : ys.length = xs.length) : crcC p s xs ^^^ crcC p t xs = crcC p s ys ^^^ crcC p t ys := by
  rw [crcC_seeds, crcC_seeds, h]
set_option maxRecDepth 100000 in
set_option maxHeartbeats 4000000 in
theorem seeds_walk (n : Int) (s t : Nat) (hs : s < 4294967296) (ht : t < 4294967296) (vx vy : Value) (xs ys : List Nat) (hbx : ∀ c ∈ xs, c < 256) (hby : ∀ c ∈ ys, c < 256) (w : World) (hvx : Rd w vx (nus .u8 xs)) (hvy : Rd w vy (nus .u8 ys)) :
    Calls Try.prog 7 #[.int .i64 n, .int .u32 (s : Int), .int .u32 (t : Int), vx, vy] w fun e w' => e = .returned (.bool true) ∧ Below w.heap.size w w' := by
  obtain ⟨ax, cx, rfl, hcx, hmx⟩ := rd_shape hvx
  obtain ⟨ay, cy, rfl, hcy, hmy⟩ := rd_shape hvy
  obtain ⟨ZL, hZL⟩ : ∃ Z, Z = List.replicate 256 0 := ⟨_, rfl⟩
  have z26 : ∀ W, (zeroValue 26).run Try.prog W = .ok (.agg (tcs ZL)) W := by rw [hZL]; exact zero26
  have hl : ZL.length = 256 := by rw [hZL]; exact List.length_replicate
  clear hZL
  have HL := Lib.hid hl
  have K := Lib.hid (Below.refl w.heap.size w)
  have CK := Lib.hid known_any
  have CA := Lib.hid awake_any
  by_cases h1 : 200 < xs.length
  · have f1a : decide ((200 : Int) < (xs.length : Int)) = true := decide_eq_true (by omega)
    have f1b : decide (200 < xs.length) = true := decide_eq_true (by omega)
    have f1c : 200 < xs.length := by omega
    go_enter Try.func7, Try.ntmps7
    go_wp2_with fail
    refine (CK.out w).mono ?_
    rintro e V1 ⟨rfl, hB, hy⟩
    have K1 := Lib.hid hy
    clear hB hy
    go_wp2_with fail
    refine (CA.out V1).mono ?_
    rintro e V2 ⟨rfl, hy⟩
    go_wp2
    go_ret
    exact ⟨rfl, K1.out.trans (hy.mono K1.out.size)⟩
  by_cases h2 : ys.length < xs.length
  · have f1a : decide ((200 : Int) < (xs.length : Int)) = false := decide_eq_false (by omega)
    have f1b : decide (200 < xs.length) = false := decide_eq_false (by omega)
    have f1c : ¬ 200 < xs.length := by omega
    have f2a : decide ((ys.length : Int) < (xs.length : Int)) = true := decide_eq_true (by omega)
    have f2b : decide (ys.length < xs.length) = true := decide_eq_true (by omega)
    have f2c : ys.length < xs.length := by omega
    go_enter Try.func7, Try.ntmps7
    go_wp2_with fail
    refine (CK.out w).mono ?_
    rintro e V1 ⟨rfl, hB, hy⟩
    have K1 := Lib.hid hy
    clear hB hy
    go_wp2_with fail
    refine (CA.out V1).mono ?_
    rintro e V2 ⟨rfl, hy⟩
    go_wp2
    go_ret
    exact ⟨rfl, K1.out.trans (hy.mono K1.out.size)⟩
  by_cases h3 : 200 < ys.length
  · have f1a : decide ((200 : Int) < (xs.length : Int)) = false := decide_eq_false (by omega)
    have f1b : decide (200 < xs.length) = false := decide_eq_false (by omega)
    have f1c : ¬ 200 < xs.length := by omega
    have f2a : decide ((ys.length : Int) < (xs.length : Int)) = false := decide_eq_false (by omega)
    have f2b : decide (ys.length < xs.length) = false := decide_eq_false (by omega)
    have f2c : ¬ ys.length < xs.length := by omega
    have f3a : decide ((200 : Int) < (ys.length : Int)) = true := decide_eq_true (by omega)
    have f3b : decide (200 < ys.length) = true := decide_eq_true (by omega)
    have f3c : 200 < ys.length := by omega
    go_enter Try.func7, Try.ntmps7
    go_wp2_with fail
    refine (CK.out w).mono ?_
    rintro e V1 ⟨rfl, hB, hy⟩
    have K1 := Lib.hid hy
    clear hB hy
    go_wp2_with fail
    refine (CA.out V1).mono ?_
    rintro e V2 ⟨rfl, hy⟩
    go_wp2
    go_ret
    exact ⟨rfl, K1.out.trans (hy.mono K1.out.size)⟩
  have f1a : decide ((200 : Int) < (xs.length : Int)) = false := decide_eq_false (by omega)
  have f1b : decide (200 < xs.length) = false := decide_eq_false (by omega)
  have f1c : ¬ 200 < xs.length := by omega
  have f2a : decide ((ys.length : Int) < (xs.length : Int)) = false := decide_eq_false (by omega)
  have f2b : decide (ys.length < xs.length) = false := decide_eq_false (by omega)
  have f2c : ¬ ys.length < xs.length := by omega
  have f3a : decide ((200 : Int) < (ys.length : Int)) = false := decide_eq_false (by omega)
  have f3b : decide (200 < ys.length) = false := decide_eq_false (by omega)
  have f3c : ¬ 200 < ys.length := by omega
  have hlen : xs.length ≤ ys.length := by omega
  have hlen2 : ys.length ≤ 200 := by omega
  clear h1 h2 h3
  obtain ⟨hj1, hj2⟩ := round_nat n 4 (by decide)
  generalize hjj : (n % ((4 : Nat) : Int)).toNat = m at hj1 hj2
  have hj1' : n % 4 = (m : Int) := hj1
  have CR4 := Lib.hid (fun W => round_any n 4 W (by decide) (by decide))
  rw [hj1'] at CR4
  obtain ⟨hp1, hp⟩ := knownC_hi m hj2
  have CC4 := Lib.hid (tcs_at knownC m (show m < knownC.length from hj2))
  generalize knownC.getD m 0 = p at CC4 hp1 hp
  have CM := Lib.hid (fun W => make_any p hp W)
  have Xx := Lib.hid hvx
  have Xy := Lib.hid (hvy.front xs.length hlen)
  have hby2 : ∀ c ∈ ys.take xs.length, c < 256 := fun c hc => hby c (List.mem_of_mem_take hc)
  have hsame := seeds_same p s t xs (ys.take xs.length) (by rw [List.length_take]; omega)
  have hiff := crcC_same p s t xs hp1 hp hs ht
  have l1 := crcC_lt p s xs hp hs hbx
  have l2 := crcC_lt p t xs hp ht hbx
  have l3 := crcC_lt p s _ hp hs hby2
  have l4 := crcC_lt p t _ hp ht hby2
  have C1 := Lib.hid (fun W h => of_any p s hp hs (.slice ax xs.length cx) xs hbx W h)
  have C2 := Lib.hid (fun W h => of_any p t hp ht (.slice ax xs.length cx) xs hbx W h)
  have C3 := Lib.hid (fun W h => of_any p s hp hs (.slice ay xs.length cy) _ hby2 W h)
  have C4 := Lib.hid (fun W h => of_any p t hp ht (.slice ay xs.length cy) _ hby2 W h)
  generalize List.take xs.length ys = zs at *
  generalize crcC p s xs = q1 at *
  generalize crcC p t xs = q2 at *
  generalize crcC p s zs = q3 at *
  generalize crcC p t zs = q4 at *
  have x1 := xor_u32 q1 q2 l1 l2
  have x2 := xor_u32 q3 q4 l3 l4
  rw [← hsame] at x2
  generalize q1 ^^^ q2 = D at *
  have HI := Lib.hid hiff
  have TA := Lib.hid (fun j (h : j < 256) => (tcs_at (tabL p) j (by rw [tabL_len]; exact h)).trans (by rw [tabL_at _ _ h]))
  have SZ := Lib.hid (tabL_len p)
  have hS : Hid ((tcs (tabL p)).size = (tcs ZL).size) := by show _ = _; rw [tcs_size, tcs_size, SZ.out, HL.out]
  have hI := Lib.hid (info26 (tabL p) SZ.out)
  have hO := Lib.hid (tcs_one (tabL p))
  generalize tabL p = T at *
  clear TA hl hj1 hj1' hjj hvx hvy hsame hiff l1 l2 l3 l4 hby hbx hby2 hp1 hp
  go_enter Try.func7, Try.ntmps7
  go_wp2_with fail
  refine (CK.out w).mono ?_
  rintro e V1 ⟨rfl, hB, hy⟩
  replace K := Lib.hid (K.out.trans (hy.mono K.out.size))
  replace Xx := Lib.hid (Xx.out.below hy)
  replace Xy := Lib.hid (Xy.out.below hy)
  have B := Lib.hid (hB)
  clear hB
  clear hy
  have c0 : V1.cell? ⟨w.heap.size, m, none⟩ = some (.int .u32 (p : Int)) := (B.out.cell m).trans CC4.out
  go_wp2_with fail
  refine (CR4.out V1).mono ?_
  rintro e V2 ⟨rfl, rfl⟩
  go_wp2_with fail
  refine (CM.out V1).mono ?_
  rintro e V3 ⟨rfl, hy⟩
  replace K := Lib.hid (K.out.trans (hy.mono K.out.size))
  replace Xx := Lib.hid (Xx.out.below hy)
  replace Xy := Lib.hid (Xy.out.below hy)
  replace B := Lib.hid (B.out.below hy B.out.lt)
  clear hy
  go_wp2_with (((with_reducible refine wpList_blk_store (op := ⟨none, .store 26 (.tmp 12) (.tmp 47), _, _, _, _⟩) ?sg1 26 (.tmp 12) (.tmp 47) ?so1 (V3.heap.size) (tcs T) ?sx1 ?sy1 (Blk.new V3 26 (tcs ZL)) hS.out hI.out hO.out ?_); (case sg1 => rfl); (case so1 => rfl); (case sx1 => rfl); (case sy1 => rfl)))
  intro V4 hA hF hB
  have hy := ((Below.refl V3.heap.size V3).alloc (Nat.le_refl _) (.cells (tcs ZL) 26)).trans (hB _ (Nat.le_refl _))
  replace K := Lib.hid (K.out.trans (hy.mono K.out.size))
  replace Xx := Lib.hid (Xx.out.below hy)
  replace Xy := Lib.hid (Xy.out.below hy)
  replace B := Lib.hid (B.out.below hy B.out.lt)
  have N := Lib.hid hA
  clear hA hF hB hy
  clear c0
  clear B
  generalize hg2 : V3.heap.size = g2 at *
  clear hg2
  go_wp2_with fail
  refine wp_region_held (S := (fun w' : World => Below (V4.heap.size) V4 w')) (by kernel_rfl) ?_
  change wpAnyH _ _ _ _ _ _ _ _ V4.drew
  have hy : Below V4.heap.size V4 V4.drew := (Below.refl _ _).drew
  have hE0 : Below (V4.heap.size) V4 V4.drew := (Below.refl _ _).drew
  clear hy
  generalize V4.drew = Y5x0 at hE0  ⊢
  have E0 := Lib.hid hE0
  clear hE0
  refine tkA 0 (.agg (tcs T)) ?_ E0.out ?_
  · (intro w1 hS; have hW := hS; exact exec_load 26 (.tmp 12) rfl _ rfl _ (run_blk_load (P := Try.prog) 26 (g2) _ (N.out.below hW N.out.lt) Try.underlying26 rfl hI.out))
  simp only [Act.put, tS1, tS2, tS3]
  refine tkA 1 (?_) ?_ E0.out ?_
  rotate_left
  · (intro w1 hS; go_simp; try with_reducible rfl)
  simp only [Act.put, tS1, tS2, tS3]
  refine tkA 2 (?_) ?_ E0.out ?_
  rotate_left
  · (intro w1 hS; go_simp; try with_reducible rfl)
  simp only [Act.put, tS1, tS2, tS3]
  refine tkA 4 (.agg (tcs T)) ?_ E0.out ?_
  · (intro w1 hS; have hW := hS; exact exec_load 26 (.tmp 12) rfl _ rfl _ (run_blk_load (P := Try.prog) 26 (g2) _ (N.out.below hW N.out.lt) Try.underlying26 rfl hI.out))
  simp only [Act.put, tS1, tS2, tS3]
  refine tkA 5 (?_) ?_ E0.out ?_
  rotate_left
  · (intro w1 hS; go_simp; try with_reducible rfl)
  simp only [Act.put, tS1, tS2, tS3]
  refine tkA 6 (?_) ?_ E0.out ?_
  rotate_left
  · (intro w1 hS; go_simp; try with_reducible rfl)
  simp only [Act.put, tS1, tS2, tS3]
  refine tkO 3 (fun KK hK => ?_)
  go_simp
  refine (C1.out Y5x0 (Xx.out.below E0.out)).mono ?_
  rintro e Y5x1 ⟨rfl, hy⟩
  have E1 := Lib.hid (E0.out.trans (hy.mono E0.out.size))
  have C1 := Lib.hid E1.out
  clear hy E0
  refine hK.out _ _ C1.out (fun _ => ?_)
  clear hK KK
  refine wpAnyH_mono (S' := (fun w' : World => Below Y5x1.heap.size Y5x1 w')) (fun w1 h => C1.out.trans (h.mono C1.out.size)) _ _ _ _ ?_
  clear C1
  try simp only [Act.put, tS1, tS2, tS3]
  refine tkO 7 (fun KK hK => ?_)
  go_simp
  refine (C2.out Y5x1 (Xx.out.below E1.out)).mono ?_
  rintro e Y5x2 ⟨rfl, hy⟩
  have E2 := Lib.hid (E1.out.trans (hy.mono E1.out.size))
  have C2 := Lib.hid hy
  clear hy E1
  refine hK.out _ _ C2.out (fun _ => ?_)
  clear hK KK
  refine wpAnyH_mono (S' := (fun w' : World => Below Y5x2.heap.size Y5x2 w')) (fun w1 h => C2.out.trans (h.mono C2.out.size)) _ _ _ _ ?_
  clear C2
  try simp only [Act.put, tS1, tS2, tS3]
  refine tkA 8 (?_) ?_ (Below.refl _ _) ?_
  rotate_left
  · (intro w1 hS; go_simp; try with_reducible rfl)
  simp only [Act.put, tS1, tS2, tS3]
  refine tkA 9 (?_) ?_ (Below.refl _ _) ?_
  rotate_left
  · (intro w1 hS; go_simp; try with_reducible rfl)
  simp only [Act.put, tS1, tS2, tS3]
  refine wpAnyH_done (by kernel_rfl) ?_ _
  have hy := E2.out
  replace K := Lib.hid (K.out.trans (hy.mono K.out.size))
  replace Xx := Lib.hid (Xx.out.below hy)
  replace Xy := Lib.hid (Xy.out.below hy)
  replace N := Lib.hid (N.out.below hy N.out.lt)
  clear hy E2
  clear f1a f1b f1c f2a f2b f2c f3a f3b f3c
  have hcz : xs.length ≤ cy := by omega
  have hyes : (q1 = q2 ∧ s = t) ∨ (q1 ≠ q2 ∧ s ≠ t) := by
    by_cases h : s = t
    · exact .inl ⟨HI.out.2 h, h⟩
    · exact .inr ⟨fun e => h (HI.out.1 e), h⟩
  clear HI
  go_wp2_with fail
  rcases hyes with ⟨hqq, hst⟩ | ⟨hqq, hst⟩
  · subst hqq
    subst hst
    go_wp2_with fail
    refine wp_region_held (S := (fun w' : World => Below (Y5x2.heap.size) Y5x2 w')) (by kernel_rfl) ?_
    change wpAnyH _ _ _ _ _ _ _ _ Y5x2.drew
    have hy : Below Y5x2.heap.size Y5x2 Y5x2.drew := (Below.refl _ _).drew
    have hE0 : Below (Y5x2.heap.size) Y5x2 Y5x2.drew := (Below.refl _ _).drew
    clear hy
    generalize Y5x2.drew = Y6x0 at hE0  ⊢
    have E0 := Lib.hid hE0
    clear hE0
    refine tkA 0 (?_) ?_ E0.out ?_
    rotate_left
    · (intro w1 hS; go_simp; try with_reducible rfl)
    simp only [Act.put, tS1, tS2, tS3]
    refine tkA 1 (?_) ?_ E0.out ?_
    rotate_left
    · (intro w1 hS; go_simp; try with_reducible rfl)
    simp only [Act.put, tS1, tS2, tS3]
    refine tkA 2 (?_) ?_ E0.out ?_
    rotate_left
    · (intro w1 hS; go_simp; try with_reducible rfl)
    simp only [Act.put, tS1, tS2, tS3]
    refine tkA 3 (?_) ?_ E0.out ?_
    rotate_left
    · (intro w1 hS; go_simp; try with_reducible rfl)
    simp only [Act.put, tS1, tS2, tS3]
    refine tkA 4 (?_) ?_ E0.out ?_
    rotate_left
    · (intro w1 hS; go_simp; try with_reducible rfl)
    simp only [Act.put, tS1, tS2, tS3]
    refine tkA 5 (?_) ?_ E0.out ?_
    rotate_left
    · (intro w1 hS; go_simp; try with_reducible rfl)
    simp only [Act.put, tS1, tS2, tS3]
    refine tkA 6 (?_) ?_ E0.out ?_
    rotate_left
    · (intro w1 hS; go_simp; try with_reducible rfl)
    simp only [Act.put, tS1, tS2, tS3]
    refine tkA 7 (?_) ?_ E0.out ?_
    rotate_left
    · (intro w1 hS; go_simp; try with_reducible rfl)
    simp only [Act.put, tS1, tS2, tS3]
    refine tkA 8 (?_) ?_ E0.out ?_
    rotate_left
    · (intro w1 hS; go_simp; try with_reducible rfl)
    simp only [Act.put, tS1, tS2, tS3]
    refine tkA 9 (?_) ?_ E0.out ?_
    rotate_left
    · (intro w1 hS; go_simp; try with_reducible rfl)
    simp only [Act.put, tS1, tS2, tS3]
    refine tkA 10 (?_) ?_ E0.out ?_
    rotate_left
    · (intro w1 hS; go_simp; try with_reducible rfl)
    simp only [Act.put, tS1, tS2, tS3]
    refine tkA 11 (.agg (tcs T)) ?_ E0.out ?_
    · (intro w1 hS; have hW := hS; exact exec_load 26 (.tmp 12) rfl _ rfl _ (run_blk_load (P := Try.prog) 26 (g2) _ (N.out.below hW N.out.lt) Try.underlying26 rfl hI.out))
    simp only [Act.put, tS1, tS2, tS3]
    refine tkA 12 (?_) ?_ E0.out ?_
    rotate_left
    · (intro w1 hS; go_simp; try with_reducible rfl)
    simp only [Act.put, tS1, tS2, tS3]
    refine tkA 13 (?_) ?_ E0.out ?_
    rotate_left
    · (intro w1 hS; go_simp; try with_reducible rfl)
    simp only [Act.put, tS1, tS2, tS3]
    refine tkA 14 (?_) ?_ E0.out ?_
    rotate_left
    · (intro w1 hS; go_simp; try with_reducible rfl)
    simp only [Act.put, tS1, tS2, tS3]
    refine tkA 15 (?_) ?_ E0.out ?_
    rotate_left
    · (intro w1 hS; go_simp; try with_reducible rfl)
    simp only [Act.put, tS1, tS2, tS3]
    refine tkA 16 (?_) ?_ E0.out ?_
    rotate_left
    · (intro w1 hS; have hW := hS; have q : (xs.length : Int) ≤ (cy : Int) := (by omega); clear hW hS; go_simp; try with_reducible rfl)
    simp only [Act.put, tS1, tS2, tS3]
    refine tkA 18 (.agg (tcs T)) ?_ E0.out ?_
    · (intro w1 hS; have hW := hS; exact exec_load 26 (.tmp 12) rfl _ rfl _ (run_blk_load (P := Try.prog) 26 (g2) _ (N.out.below hW N.out.lt) Try.underlying26 rfl hI.out))
    simp only [Act.put, tS1, tS2, tS3]
    refine tkA 19 (?_) ?_ E0.out ?_
    rotate_left
    · (intro w1 hS; go_simp; try with_reducible rfl)
    simp only [Act.put, tS1, tS2, tS3]
    refine tkA 20 (?_) ?_ E0.out ?_
    rotate_left
    · (intro w1 hS; go_simp; try with_reducible rfl)
    simp only [Act.put, tS1, tS2, tS3]
    refine tkA 21 (?_) ?_ E0.out ?_
    rotate_left
    · (intro w1 hS; go_simp; try with_reducible rfl)
    simp only [Act.put, tS1, tS2, tS3]
    refine tkA 22 (?_) ?_ E0.out ?_
    rotate_left
    · (intro w1 hS; go_simp; try with_reducible rfl)
    simp only [Act.put, tS1, tS2, tS3]
    refine tkA 23 (?_) ?_ E0.out ?_
    rotate_left
    · (intro w1 hS; have hW := hS; have q : (xs.length : Int) ≤ (cy : Int) := (by omega); clear hW hS; go_simp; try with_reducible rfl)
    simp only [Act.put, tS1, tS2, tS3]
    refine tkO 17 (fun KK hK => ?_)
    go_simp
    refine (C3.out Y6x0 (Xy.out.below E0.out)).mono ?_
    rintro e Y6x1 ⟨rfl, hy⟩
    have E1 := Lib.hid (E0.out.trans (hy.mono E0.out.size))
    have C1 := Lib.hid E1.out
    clear hy E0
    refine hK.out _ _ C1.out (fun _ => ?_)
    clear hK KK
    refine wpAnyH_mono (S' := (fun w' : World => Below Y6x1.heap.size Y6x1 w')) (fun w1 h => C1.out.trans (h.mono C1.out.size)) _ _ _ _ ?_
    clear C1
    try simp only [Act.put, tS1, tS2, tS3]
    refine tkO 24 (fun KK hK => ?_)
    go_simp
    refine (C4.out Y6x1 (Xy.out.below E1.out)).mono ?_
    rintro e Y6x2 ⟨rfl, hy⟩
    have E2 := Lib.hid (E1.out.trans (hy.mono E1.out.size))
    have C2 := Lib.hid hy
    clear hy E1
    refine hK.out _ _ C2.out (fun _ => ?_)
    clear hK KK
    refine wpAnyH_mono (S' := (fun w' : World => Below Y6x2.heap.size Y6x2 w')) (fun w1 h => C2.out.trans (h.mono C2.out.size)) _ _ _ _ ?_
    clear C2
    try simp only [Act.put, tS1, tS2, tS3]
    refine tkA 25 (?_) ?_ (Below.refl _ _) ?_
    rotate_left
    · (intro w1 hS; go_simp; try with_reducible rfl)
    simp only [Act.put, tS1, tS2, tS3]
    refine tkA 26 (?_) ?_ (Below.refl _ _) ?_
    rotate_left
    · (intro w1 hS; go_simp; try with_reducible rfl)
    simp only [Act.put, tS1, tS2, tS3]
    refine tkA 27 (?_) ?_ (Below.refl _ _) ?_
    rotate_left
    · (intro w1 hS; go_simp; try with_reducible rfl)
    simp only [Act.put, tS1, tS2, tS3]
    refine tkA 28 (?_) ?_ (Below.refl _ _) ?_
    rotate_left
    · (intro w1 hS; go_simp; try with_reducible rfl)
    simp only [Act.put, tS1, tS2, tS3]
    refine tkO 29 (fun KK hK => ?_)
    go_simp
    refine (CA.out Y6x2).mono ?_
    rintro e Y6x3 ⟨rfl, hy⟩
    have E3 := Lib.hid (E2.out.trans (hy.mono E2.out.size))
    have C3 := Lib.hid hy
    clear hy E2
    refine hK.out _ _ C3.out (fun _ => ?_)
    clear hK KK
    refine wpAnyH_mono (S' := (fun w' : World => Below Y6x3.heap.size Y6x3 w')) (fun w1 h => C3.out.trans (h.mono C3.out.size)) _ _ _ _ ?_
    clear C3
    try simp only [Act.put, tS1, tS2, tS3]
    refine tkA 30 (?_) ?_ (Below.refl _ _) ?_
    rotate_left
    · (intro w1 hS; go_simp; try with_reducible rfl)
    simp only [Act.put, tS1, tS2, tS3]
    refine tkA 31 (?_) ?_ (Below.refl _ _) ?_
    rotate_left
    · (intro w1 hS; go_simp; try with_reducible rfl)
    simp only [Act.put, tS1, tS2, tS3]
    refine wpAnyH_done (by kernel_rfl) ?_ _
    have hy := E3.out
    replace K := Lib.hid (K.out.trans (hy.mono K.out.size))
    replace Xx := Lib.hid (Xx.out.below hy)
    replace Xy := Lib.hid (Xy.out.below hy)
    replace N := Lib.hid (N.out.below hy N.out.lt)
    clear hy E3
    go_wp2
    go_ret
    exact ⟨rfl, K.out⟩
  · have u1 : (((q1 : Nat) : Int) == (q2 : Int)) = false := by rw [beq_eq_false_iff_ne]; omega
    have u2 : (((s : Nat) : Int) == (t : Int)) = false := by rw [beq_eq_false_iff_ne]; omega
    have u3 : (q1 == q2) = false := by rw [beq_eq_false_iff_ne]; exact hqq
    have u4 : (s == t) = false := by rw [beq_eq_false_iff_ne]; exact hst
    have u5 : decide (q1 = q2) = false := decide_eq_false hqq
    have u6 : decide (s = t) = false := decide_eq_false hst
    clear hqq hst
    go_wp2_with fail
    refine wp_region_held (S := (fun w' : World => Below (Y5x2.heap.size) Y5x2 w')) (by kernel_rfl) ?_
    change wpAnyH _ _ _ _ _ _ _ _ Y5x2.drew
    have hy : Below Y5x2.heap.size Y5x2 Y5x2.drew := (Below.refl _ _).drew
    have hE0 : Below (Y5x2.heap.size) Y5x2 Y5x2.drew := (Below.refl _ _).drew
    clear hy
    generalize Y5x2.drew = Y6x0 at hE0  ⊢
    have E0 := Lib.hid hE0
    clear hE0
    refine tkA 0 (?_) ?_ E0.out ?_
    rotate_left
    · (intro w1 hS; go_simp; try with_reducible rfl)
    simp only [Act.put, tS1, tS2, tS3]
    refine tkA 1 (?_) ?_ E0.out ?_
    rotate_left
    · (intro w1 hS; go_simp; try with_reducible rfl)
    simp only [Act.put, tS1, tS2, tS3]
    refine tkA 2 (?_) ?_ E0.out ?_
    rotate_left
    · (intro w1 hS; go_simp; try with_reducible rfl)
    simp only [Act.put, tS1, tS2, tS3]
    refine tkA 3 (?_) ?_ E0.out ?_
    rotate_left
    · (intro w1 hS; go_simp; try with_reducible rfl)
    simp only [Act.put, tS1, tS2, tS3]
    refine tkA 4 (?_) ?_ E0.out ?_
    rotate_left
    · (intro w1 hS; go_simp; try with_reducible rfl)
    simp only [Act.put, tS1, tS2, tS3]
    refine tkA 5 (?_) ?_ E0.out ?_
    rotate_left
    · (intro w1 hS; go_simp; try with_reducible rfl)
    simp only [Act.put, tS1, tS2, tS3]
    refine tkA 6 (?_) ?_ E0.out ?_
    rotate_left
    · (intro w1 hS; go_simp; try with_reducible rfl)
    simp only [Act.put, tS1, tS2, tS3]
    refine tkA 7 (?_) ?_ E0.out ?_
    rotate_left
    · (intro w1 hS; go_simp; try with_reducible rfl)
    simp only [Act.put, tS1, tS2, tS3]
    refine tkA 8 (?_) ?_ E0.out ?_
    rotate_left
    · (intro w1 hS; go_simp; try with_reducible rfl)
    simp only [Act.put, tS1, tS2, tS3]
    refine tkA 9 (?_) ?_ E0.out ?_
    rotate_left
    · (intro w1 hS; go_simp; try with_reducible rfl)
    simp only [Act.put, tS1, tS2, tS3]
    refine tkA 10 (?_) ?_ E0.out ?_
    rotate_left
    · (intro w1 hS; go_simp; try with_reducible rfl)
    simp only [Act.put, tS1, tS2, tS3]
    refine tkA 11 (.agg (tcs T)) ?_ E0.out ?_
    · (intro w1 hS; have hW := hS; exact exec_load 26 (.tmp 12) rfl _ rfl _ (run_blk_load (P := Try.prog) 26 (g2) _ (N.out.below hW N.out.lt) Try.underlying26 rfl hI.out))
    simp only [Act.put, tS1, tS2, tS3]
    refine tkA 12 (?_) ?_ E0.out ?_
    rotate_left
    · (intro w1 hS; go_simp; try with_reducible rfl)
    simp only [Act.put, tS1, tS2, tS3]
    refine tkA 13 (?_) ?_ E0.out ?_
    rotate_left
    · (intro w1 hS; go_simp; try with_reducible rfl)
    simp only [Act.put, tS1, tS2, tS3]
    refine tkA 14 (?_) ?_ E0.out ?_
    rotate_left
    · (intro w1 hS; go_simp; try with_reducible rfl)
    simp only [Act.put, tS1, tS2, tS3]
    refine tkA 15 (?_) ?_ E0.out ?_
    rotate_left
    · (intro w1 hS; go_simp; try with_reducible rfl)
    simp only [Act.put, tS1, tS2, tS3]
    refine tkA 16 (?_) ?_ E0.out ?_
    rotate_left
    · (intro w1 hS; have hW := hS; have q : (xs.length : Int) ≤ (cy : Int) := (by omega); clear hW hS; go_simp; try with_reducible rfl)
    simp only [Act.put, tS1, tS2, tS3]
    refine tkA 18 (.agg (tcs T)) ?_ E0.out ?_
    · (intro w1 hS; have hW := hS; exact exec_load 26 (.tmp 12) rfl _ rfl _ (run_blk_load (P := Try.prog) 26 (g2) _ (N.out.below hW N.out.lt) Try.underlying26 rfl hI.out))
    simp only [Act.put, tS1, tS2, tS3]
    refine tkA 19 (?_) ?_ E0.out ?_
    rotate_left
    · (intro w1 hS; go_simp; try with_reducible rfl)
    simp only [Act.put, tS1, tS2, tS3]
    refine tkA 20 (?_) ?_ E0.out ?_
    rotate_left
    · (intro w1 hS; go_simp; try with_reducible rfl)
    simp only [Act.put, tS1, tS2, tS3]
    refine tkA 21 (?_) ?_ E0.out ?_
    rotate_left
    · (intro w1 hS; go_simp; try with_reducible rfl)
    simp only [Act.put, tS1, tS2, tS3]
    refine tkA 22 (?_) ?_ E0.out ?_
    rotate_left
    · (intro w1 hS; go_simp; try with_reducible rfl)
    simp only [Act.put, tS1, tS2, tS3]
    refine tkA 23 (?_) ?_ E0.out ?_
    rotate_left
    · (intro w1 hS; have hW := hS; have q : (xs.length : Int) ≤ (cy : Int) := (by omega); clear hW hS; go_simp; try with_reducible rfl)
    simp only [Act.put, tS1, tS2, tS3]
    refine tkO 17 (fun KK hK => ?_)
    go_simp
    refine (C3.out Y6x0 (Xy.out.below E0.out)).mono ?_
    rintro e Y6x1 ⟨rfl, hy⟩
    have E1 := Lib.hid (E0.out.trans (hy.mono E0.out.size))
    have C1 := Lib.hid E1.out
    clear hy E0
    refine hK.out _ _ C1.out (fun _ => ?_)
    clear hK KK
    refine wpAnyH_mono (S' := (fun w' : World => Below Y6x1.heap.size Y6x1 w')) (fun w1 h => C1.out.trans (h.mono C1.out.size)) _ _ _ _ ?_
    clear C1
    try simp only [Act.put, tS1, tS2, tS3]
    refine tkO 24 (fun KK hK => ?_)
    go_simp
    refine (C4.out Y6x1 (Xy.out.below E1.out)).mono ?_
    rintro e Y6x2 ⟨rfl, hy⟩
    have E2 := Lib.hid (E1.out.trans (hy.mono E1.out.size))
    have C2 := Lib.hid hy
    clear hy E1
    refine hK.out _ _ C2.out (fun _ => ?_)
    clear hK KK
    refine wpAnyH_mono (S' := (fun w' : World => Below Y6x2.heap.size Y6x2 w')) (fun w1 h => C2.out.trans (h.mono C2.out.size)) _ _ _ _ ?_
    clear C2
    try simp only [Act.put, tS1, tS2, tS3]
    refine tkA 25 (?_) ?_ (Below.refl _ _) ?_
    rotate_left
    · (intro w1 hS; go_simp; try with_reducible rfl)
    simp only [Act.put, tS1, tS2, tS3]
    refine tkA 26 (?_) ?_ (Below.refl _ _) ?_
    rotate_left
    · (intro w1 hS; go_simp; try with_reducible rfl)
    simp only [Act.put, tS1, tS2, tS3]
    refine tkA 27 (?_) ?_ (Below.refl _ _) ?_
    rotate_left
    · (intro w1 hS; go_simp; try with_reducible rfl)
    simp only [Act.put, tS1, tS2, tS3]
    refine tkA 28 (?_) ?_ (Below.refl _ _) ?_
    rotate_left
    · (intro w1 hS; go_simp; try with_reducible rfl)
    simp only [Act.put, tS1, tS2, tS3]
    refine tkO 29 (fun KK hK => ?_)
    go_simp
    refine (CA.out Y6x2).mono ?_
    rintro e Y6x3 ⟨rfl, hy⟩
    have E3 := Lib.hid (E2.out.trans (hy.mono E2.out.size))
    have C3 := Lib.hid hy
    clear hy E2
    refine hK.out _ _ C3.out (fun _ => ?_)
    clear hK KK
    refine wpAnyH_mono (S' := (fun w' : World => Below Y6x3.heap.size Y6x3 w')) (fun w1 h => C3.out.trans (h.mono C3.out.size)) _ _ _ _ ?_
    clear C3
    try simp only [Act.put, tS1, tS2, tS3]
    refine tkA 30 (?_) ?_ (Below.refl _ _) ?_
    rotate_left
    · (intro w1 hS; go_simp; try with_reducible rfl)
    simp only [Act.put, tS1, tS2, tS3]
    refine tkA 31 (?_) ?_ (Below.refl _ _) ?_
    rotate_left
    · (intro w1 hS; go_simp; try with_reducible rfl)
    simp only [Act.put, tS1, tS2, tS3]
    refine wpAnyH_done (by kernel_rfl) ?_ _
    have hy := E3.out
    replace K := Lib.hid (K.out.trans (hy.mono K.out.size))
    replace Xx := Lib.hid (Xx.out.below hy)
    replace Xy := Lib.hid (Xy.out.below hy)
    replace N := Lib.hid (N.out.below hy N.out.lt)
    clear hy E3
    go_wp2
    go_ret
    exact ⟨rfl, K.out⟩
end Go.Proofs.Ythgcgkfcofomcaa
