/- CrcLinear's walk. -/
import Derived.Test.YthgcgkfcofomcaaS16x
import Derived.LoopTactic
import Derived.Handy
import Derived.Deep.CutBlock
import Derived.Deep.DeepCutAuto
namespace Go.Proofs.Ythgcgkfcofomcaa
open Go.RowKit Go.Lib

set_option maxRecDepth 100000 in
set_option maxHeartbeats 4000000 in
theorem linear_walk (p s : Nat) (hp : p < 4294967296) (hs : s < 4294967296) (vx vy : Value) (xs ys : List Nat) (hbx : ∀ c ∈ xs, c < 256) (hby : ∀ c ∈ ys, c < 256) (w : World) (hvx : Rd w vx (nus .u8 xs)) (hvy : Rd w vy (nus .u8 ys)) :
    Calls Try.prog 5 #[.int .u32 (p : Int), .int .u32 (s : Int), vx, vy] w fun e w' => e = .returned (.bool true) ∧ Below w.heap.size w w' := by
  obtain ⟨ax, cx, rfl, hcx, hmx⟩ := rd_shape hvx
  obtain ⟨ay, cy, rfl, hcy, hmy⟩ := rd_shape hvy
  obtain ⟨ZL, hZL⟩ : ∃ Z, Z = List.replicate 256 0 := ⟨_, rfl⟩
  have z26 : ∀ W, (zeroValue 26).run Try.prog W = .ok (.agg (tcs ZL)) W := by rw [hZL]; exact zero26
  have hl : ZL.length = 256 := by rw [hZL]; exact List.length_replicate
  clear hZL
  have HL := Lib.hid hl
  have K := Lib.hid (Below.refl w.heap.size w)
  have CK := Lib.hid known_any
  have CA := Lib.hid awake_any
  by_cases h1 : 300 < xs.length
  · have f1a : decide ((300 : Int) < (xs.length : Int)) = true := decide_eq_true (by omega)
    have f1b : decide (300 < xs.length) = true := decide_eq_true (by omega)
    have f1c : 300 < xs.length := by omega
    go_enter Try.func5, Try.ntmps5
    have K1 := K
    go_wp2_with fail
    refine (CA.out w).mono ?_
    rintro e V2 ⟨rfl, hy⟩
    go_wp2
    go_ret
    exact ⟨rfl, K1.out.trans (hy.mono K1.out.size)⟩
  by_cases h2 : ys.length < xs.length
  · have f1a : decide ((300 : Int) < (xs.length : Int)) = false := decide_eq_false (by omega)
    have f1b : decide (300 < xs.length) = false := decide_eq_false (by omega)
    have f1c : ¬ 300 < xs.length := by omega
    have f2a : decide ((ys.length : Int) < (xs.length : Int)) = true := decide_eq_true (by omega)
    have f2b : decide (ys.length < xs.length) = true := decide_eq_true (by omega)
    have f2c : ys.length < xs.length := by omega
    go_enter Try.func5, Try.ntmps5
    have K1 := K
    go_wp2_with fail
    refine (CA.out w).mono ?_
    rintro e V2 ⟨rfl, hy⟩
    go_wp2
    go_ret
    exact ⟨rfl, K1.out.trans (hy.mono K1.out.size)⟩
  by_cases h3 : 300 < ys.length
  · have f1a : decide ((300 : Int) < (xs.length : Int)) = false := decide_eq_false (by omega)
    have f1b : decide (300 < xs.length) = false := decide_eq_false (by omega)
    have f1c : ¬ 300 < xs.length := by omega
    have f2a : decide ((ys.length : Int) < (xs.length : Int)) = false := decide_eq_false (by omega)
    have f2b : decide (ys.length < xs.length) = false := decide_eq_false (by omega)
    have f2c : ¬ ys.length < xs.length := by omega
    have f3a : decide ((300 : Int) < (ys.length : Int)) = true := decide_eq_true (by omega)
    have f3b : decide (300 < ys.length) = true := decide_eq_true (by omega)
    have f3c : 300 < ys.length := by omega
    go_enter Try.func5, Try.ntmps5
    have K1 := K
    go_wp2_with fail
    refine (CA.out w).mono ?_
    rintro e V2 ⟨rfl, hy⟩
    go_wp2
    go_ret
    exact ⟨rfl, K1.out.trans (hy.mono K1.out.size)⟩
  have f1a : decide ((300 : Int) < (xs.length : Int)) = false := decide_eq_false (by omega)
  have f1b : decide (300 < xs.length) = false := decide_eq_false (by omega)
  have f1c : ¬ 300 < xs.length := by omega
  have f2a : decide ((ys.length : Int) < (xs.length : Int)) = false := decide_eq_false (by omega)
  have f2b : decide (ys.length < xs.length) = false := decide_eq_false (by omega)
  have f2c : ¬ ys.length < xs.length := by omega
  have f3a : decide ((300 : Int) < (ys.length : Int)) = false := decide_eq_false (by omega)
  have f3b : decide (300 < ys.length) = false := decide_eq_false (by omega)
  have f3c : ¬ 300 < ys.length := by omega
  have hlen : xs.length ≤ ys.length := by omega
  have hlen2 : ys.length ≤ 300 := by omega
  clear h1 h2 h3
  have CM := Lib.hid (fun W => make_any p hp W)
  have Xx := Lib.hid hvx
  have Xy := Lib.hid hvy
  have Xz := Lib.hid (hvy.front xs.length hlen)
  have hby2 : ∀ c ∈ ys.take xs.length, c < 256 := fun c hc => hby c (List.mem_of_mem_take hc)
  have hbz := xor_lt_256 xs (ys.take xs.length) hbx hby2
  have hb0 := zeros_lt xs.length
  have hlz : (List.zipWith (· ^^^ ·) xs (ys.take xs.length)).length = xs.length := by rw [List.length_zipWith, List.length_take]; omega
  have hl0 : (List.replicate xs.length 0).length = xs.length := List.length_replicate
  have hlin := crcC_linear p s xs (ys.take xs.length) (by rw [List.length_take]; omega)
  have l1 := crcC_lt p s xs hp hs hbx
  have l2 := crcC_lt p s _ hp hs hby2
  have l3 := crcC_lt p s _ hp hs hb0
  have C1 := Lib.hid (fun W h => of_any p s hp hs (.slice ax xs.length cx) xs hbx W h)
  have C2 := Lib.hid (fun W h => of_any p s hp hs (.slice ay xs.length cy) _ hby2 W h)
  have C3 := Lib.hid (fun (g : Nat) W h => of_any p s hp hs (.slice (some ⟨g, 0, none⟩) xs.length xs.length) _ hb0 W h)
  have C4 := Lib.hid (fun (g : Nat) W h => of_any p s hp hs (.slice (some ⟨g, 0, none⟩) xs.length xs.length) _ hbz W h)
  have HALL := Lib.hid (fun L (h : XorTo xs ys xs.length L) => h.all hlen)
  have HBx := Lib.hid (fun k => getD_lt xs hbx k)
  have HBy := Lib.hid (fun k => getD_lt ys hby k)
  have hx0 : XorTo xs ys 0 (List.replicate xs.length 0) := ⟨hl0, fun j h => by omega⟩
  have HX0 := Lib.hid hx0
  have HLZ := Lib.hid hlz
  have HL0 := Lib.hid hl0
  generalize List.zipWith (· ^^^ ·) xs (List.take xs.length ys) = xz at *
  generalize List.take xs.length ys = zs at *
  obtain ⟨O, hO2⟩ : ∃ O, O = List.replicate xs.length 0 := ⟨_, rfl⟩
  rw [← hO2] at C3 HX0 HL0 hlin l3
  have HO := Lib.hid hO2
  generalize crcC p s xs = q1 at *
  generalize crcC p s zs = q2 at *
  generalize crcC p s O = q3 at *
  generalize crcC p s xz = q4 at *
  have l4 : q1 ^^^ q2 < 4294967296 := Nat.xor_lt_two_pow (n := 32) l1 l2
  have x1 := xor_u32 q1 q2 l1 l2
  have x2 := xor_u32 (q1 ^^^ q2) q3 l4 l3
  rw [hlin] at x2
  generalize q1 ^^^ q2 = D at *
  have TA := Lib.hid (fun j (h : j < 256) => (tcs_at (tabL p) j (by rw [tabL_len]; exact h)).trans (by rw [tabL_at _ _ h]))
  have SZ := Lib.hid (tabL_len p)
  have hS : Hid ((tcs (tabL p)).size = (tcs ZL).size) := by show _ = _; rw [tcs_size, tcs_size, SZ.out, HL.out]
  have hI := Lib.hid (info26 (tabL p) SZ.out)
  have hO := Lib.hid (tcs_one (tabL p))
  generalize tabL p = T at *
  clear TA hl hvx hvy hlin l1 l2 l3 l4 hby hbx hby2 hbz hb0 hlz hl0 hx0 hO2
  have hnm : xs.length ≤ 1048576 := by omega
  have hmax : xs.length ≤ maxLen := by unfold maxLen; omega
  go_enter Try.func5, Try.ntmps5
  go_wp2_with fail
  refine (CM.out w).mono ?_
  rintro e V1 ⟨rfl, hy⟩
  replace K := Lib.hid (K.out.trans (hy.mono K.out.size))
  replace Xx := Lib.hid (Xx.out.below hy)
  replace Xy := Lib.hid (Xy.out.below hy)
  replace Xz := Lib.hid (Xz.out.below hy)
  clear hy
  go_wp2_with (((with_reducible refine wpList_blk_store (op := ⟨none, .store 26 (.tmp 9) (.tmp 29), _, _, _, _⟩) ?sg1 26 (.tmp 9) (.tmp 29) ?so1 (V1.heap.size) (tcs T) ?sx1 ?sy1 (Blk.new V1 26 (tcs ZL)) hS.out hI.out hO.out ?_); (case sg1 => rfl); (case so1 => rfl); (case sx1 => rfl); (case sy1 => rfl)))
  intro V2 hA hF hB
  have hy := ((Below.refl V1.heap.size V1).alloc (Nat.le_refl _) (.cells (tcs ZL) 26)).trans (hB _ (Nat.le_refl _))
  replace K := Lib.hid (K.out.trans (hy.mono K.out.size))
  replace Xx := Lib.hid (Xx.out.below hy)
  replace Xy := Lib.hid (Xy.out.below hy)
  replace Xz := Lib.hid (Xz.out.below hy)
  have N := Lib.hid hA
  clear hA hF hB hy
  generalize hg2 : V1.heap.size = g2 at *
  clear hg2
  go_wp2_with (at_make; refine wpList_bytes rfl _ _ rfl xs.length hnm rfl rfl ?_)
  intro V3 hZ hy
  rw [← HO.out] at hZ
  have Z0 := Lib.hid hZ
  have B0 := Lib.hid hy
  clear hZ hy
  go_wp2
  go_loopw [11] (fun i wr => ∃ (k : Nat) (L : List Nat), k ≤ xs.length ∧ i = .int .i64 (k : Int) ∧ Hid (XorTo xs ys k L) ∧ Hid (Blk wr V2.heap.size 5 (nus .u8 L).toArray) ∧ Hid (Below V2.heap.size V2 wr)) (fun i _ => xs.length - (RowKit.intOf i).toNat)
  case atStart => exact ⟨0, O, by omega, rfl, HX0, Z0, B0⟩
  case round =>
    obtain ⟨k, L, hk, rfl, hXT, Z, B⟩ := hrel
    clear Z0 B0
    by_cases hlt : k < xs.length
    · have d8 : decide ((k : Int) < (xs.length : Int)) = true := decide_eq_true (by omega)
      have d9 : decide (k < xs.length) = true := decide_eq_true (by omega)
      obtain ⟨bx, ox, rfl, hx1⟩ := Xx.out.cells (by omega)
      obtain ⟨b2, oy, rfl, hy1⟩ := Xy.out.cells (by omega)
      clear hx1 hy1
      have hXN := Lib.hid (hXT.out.next hlt)
      have hx := HBx.out k
      have hy := HBy.out k
      have hLl := hXT.out.1
      have X8 := xor_u8 _ _ hx hy
      have hk2 : k < ys.length := by omega
      go_wp2_with fail
      go_wp2_with fail
      refine wp_region_still_tail 11 (by kernel_rfl) (by kernel_rfl) ?_
      change wpStill _ _ wr.drew (fun a' => wpList _ _ _ _ a' wr.drew) _ _
      have hy := (Below.refl wr.heap.size wr).drew
      replace Z := Lib.hid (Z.out.below hy Z.out.lt)
      replace B := Lib.hid (B.out.trans (hy.mono B.out.size))
      clear hy
      generalize wr.drew = V5 at *
      obtain ⟨b', o', e', hc1⟩ := (Xx.out.below B.out).cells (by omega)
      cases e'
      obtain ⟨b', o', e', hc2⟩ := (Xy.out.below B.out).cells (by omega)
      cases e'
      have c1 := hc1 k hlt
      have c2 := hc2 k hk2
      have c3 := Z.out.cell k
      rw [nusa_at _ _ _ (by omega)] at c3
      have c4 := Z.out.frozen k
      generalize xs.getD k 0 = x at *
      generalize ys.getD k 0 = y at *
      generalize L.getD k 0 = z at *
      have Z2' := Z.out.set_ k (.int .u8 ((x ^^^ y : Nat) : Int))
      rw [nusa_set] at Z2'
      have Z2 := Lib.hid Z2'
      have B2 := Lib.hid (B.out.setCell (p := ⟨V2.heap.size, k, none⟩) (Nat.le_refl _) (.int .u8 ((x ^^^ y : Nat) : Int)))
      clear Z2' hc1 hc2
      simp only [List.take_succ_cons, List.take_zero, List.drop_succ_cons, List.drop_zero]
      still_step
      still_step
      still_step
      still_step
      still_step
      still_step
      still_step
      still_step
      still_step
      still_step
      still_step
      refine wpStill_nil ?_
      try simp only [Act.put, tS1, tS2, tS3]
      go_wp2
      go_roundw
      case rel => exact ⟨k + 1, _, Nat.succ_le_of_lt hlt, by go_num, hXN, Z2, B2⟩
      case measure => simp [RowKit.intOf]; omega
    obtain rfl : k = xs.length := by omega
    have d8 : decide (((xs.length : Nat) : Int) < (xs.length : Int)) = false := decide_eq_false (by omega)
    have d9 : decide (xs.length < xs.length) = false := decide_eq_false (by omega)
    obtain rfl := HALL.out _ hXT.out
    clear hXT hk hlt
    replace K := Lib.hid (K.out.trans (B.out.mono K.out.size))
    replace Xx := Lib.hid (Xx.out.below B.out)
    replace Xy := Lib.hid (Xy.out.below B.out)
    replace Xz := Lib.hid (Xz.out.below B.out)
    replace N := Lib.hid (N.out.below B.out N.out.lt)
    clear B
    have hcz : (xs.length : Int) ≤ (cy : Int) := by omega
    generalize V2.heap.size = g3 at *
    go_wp2_with fail
    refine wp_region_held (S := (fun w' : World => Below (wr.heap.size) wr w')) (by kernel_rfl) ?_
    change wpAnyH _ _ _ _ _ _ _ _ wr.drew
    have hy : Below wr.heap.size wr wr.drew := (Below.refl _ _).drew
    have hE0 : Below (wr.heap.size) wr wr.drew := (Below.refl _ _).drew
    clear hy
    generalize wr.drew = Y10x0 at hE0  ⊢
    have E0 := Lib.hid hE0
    clear hE0
    refine tkA 0 (.agg (tcs T)) ?_ E0.out ?_
    · (intro w1 hS; have hW := hS; exact exec_load 26 (.tmp 9) rfl _ rfl _ (run_blk_load (P := Try.prog) 26 (g2) _ (N.out.below hW N.out.lt) Try.underlying26 rfl hI.out))
    simp only [Act.put, tS1, tS2, tS3]
    refine tkA 1 (?_) ?_ E0.out ?_
    rotate_left
    · (intro w1 hS; go_simp; try with_reducible rfl)
    simp only [Act.put, tS1, tS2, tS3]
    refine tkA 2 (?_) ?_ E0.out ?_
    rotate_left
    · (intro w1 hS; go_simp; try with_reducible rfl)
    simp only [Act.put, tS1, tS2, tS3]
    refine tkA 4 (.agg (tcs T)) ?_ E0.out ?_
    · (intro w1 hS; have hW := hS; exact exec_load 26 (.tmp 9) rfl _ rfl _ (run_blk_load (P := Try.prog) 26 (g2) _ (N.out.below hW N.out.lt) Try.underlying26 rfl hI.out))
    simp only [Act.put, tS1, tS2, tS3]
    refine tkA 5 (?_) ?_ E0.out ?_
    rotate_left
    · (intro w1 hS; go_simp; try with_reducible rfl)
    simp only [Act.put, tS1, tS2, tS3]
    refine tkA 6 (?_) ?_ E0.out ?_
    rotate_left
    · (intro w1 hS; go_simp; try with_reducible rfl)
    simp only [Act.put, tS1, tS2, tS3]
    refine tkA 9 (.agg (tcs T)) ?_ E0.out ?_
    · (intro w1 hS; have hW := hS; exact exec_load 26 (.tmp 9) rfl _ rfl _ (run_blk_load (P := Try.prog) 26 (g2) _ (N.out.below hW N.out.lt) Try.underlying26 rfl hI.out))
    simp only [Act.put, tS1, tS2, tS3]
    refine tkA 10 (?_) ?_ E0.out ?_
    rotate_left
    · (intro w1 hS; go_simp; try with_reducible rfl)
    simp only [Act.put, tS1, tS2, tS3]
    refine tkA 11 (?_) ?_ E0.out ?_
    rotate_left
    · (intro w1 hS; go_simp; try with_reducible rfl)
    simp only [Act.put, tS1, tS2, tS3]
    refine tkA 12 (?_) ?_ E0.out ?_
    rotate_left
    · (intro w1 hS; go_simp; try with_reducible rfl)
    simp only [Act.put, tS1, tS2, tS3]
    refine tkA 16 (.agg (tcs T)) ?_ E0.out ?_
    · (intro w1 hS; have hW := hS; exact exec_load 26 (.tmp 9) rfl _ rfl _ (run_blk_load (P := Try.prog) 26 (g2) _ (N.out.below hW N.out.lt) Try.underlying26 rfl hI.out))
    simp only [Act.put, tS1, tS2, tS3]
    refine tkA 17 (?_) ?_ E0.out ?_
    rotate_left
    · (intro w1 hS; go_simp; try with_reducible rfl)
    simp only [Act.put, tS1, tS2, tS3]
    refine tkA 18 (?_) ?_ E0.out ?_
    rotate_left
    · (intro w1 hS; go_simp; try with_reducible rfl)
    simp only [Act.put, tS1, tS2, tS3]
    refine wpAnyH_ready (rs := [3, 13]) (by kernel_rfl) (by simp) ?_
    refine AllReadyH.cons (o := { dst := some 58, op := Op.call { callee := Callee.value (Operand.func 12), args := #[Operand.tmp 55, Operand.tmp 56, Operand.tmp 57], argTypes := #[26, 22, 23] }, type := 22, pos := "law.go:69", after := #[{ on := 0, ground := Ground.data }, { on := 1, ground := Ground.data }, { on := 2, ground := Ground.data }], guard := none }) rfl (fun KK hK => ?_) ?_
    · go_simp
      refine (C1.out Y10x0 (Xx.out.below E0.out)).mono ?_
      rintro e Y10x1 ⟨rfl, hy⟩
      have E1 := Lib.hid (E0.out.trans (hy.mono E0.out.size))
      have C1 := Lib.hid E1.out
      clear hy E0
      refine hK.out _ _ C1.out (fun _ => ?_)
      clear hK KK
      refine wpAnyH_mono (S' := (fun w' : World => Below Y10x1.heap.size Y10x1 w')) (fun w1 h => C1.out.trans (h.mono C1.out.size)) _ _ _ _ ?_
      clear C1
      try simp only [Act.put, tS1, tS2, tS3]
      refine wpAnyH_ready (rs := [7, 13]) (by kernel_rfl) (by simp) ?_
      refine AllReadyH.cons (o := { dst := some 62, op := Op.call { callee := Callee.value (Operand.func 12), args := #[Operand.tmp 59, Operand.tmp 60, Operand.tmp 61], argTypes := #[26, 22, 23] }, type := 22, pos := "law.go:69", after := #[{ on := 4, ground := Ground.data }, { on := 5, ground := Ground.data }, { on := 6, ground := Ground.data }, { on := 3, ground := Ground.chain }], guard := none }) rfl (fun KK hK => ?_) ?_
      · go_simp
        refine (C2.out Y10x1 (Xz.out.below E1.out)).mono ?_
        rintro e Y10x2 ⟨rfl, hy⟩
        have E2 := Lib.hid (E1.out.trans (hy.mono E1.out.size))
        have C2 := Lib.hid hy
        clear hy E1
        refine hK.out _ _ C2.out (fun _ => ?_)
        clear hK KK
        refine wpAnyH_mono (S' := (fun w' : World => Below Y10x2.heap.size Y10x2 w')) (fun w1 h => C2.out.trans (h.mono C2.out.size)) _ _ _ _ ?_
        clear C2
        try simp only [Act.put, tS1, tS2, tS3]
        refine tkA 8 (?_) ?_ (Below.refl _ _) ?_
        rotate_left
        · (intro w1 hS; go_simp; try with_reducible rfl)
        simp only [Act.put, tS1, tS2, tS3]
        refine tkO 13 (fun KK hK => ?_)
        rw [if_pos (by rfl)]
        refine wp_bytes (.tmp 67) (.tmp 67) rfl xs.length hnm rfl rfl ?_
        intro Y10x3 hm hy
        rw [← HO.out] at hm
        have E3 := Lib.hid (E2.out.trans (hy.mono E2.out.size))
        have C3 := Lib.hid hy
        have MB := Lib.hid (hm)
        clear hy E2
        refine hK.out _ _ C3.out (fun _ => ?_)
        clear hK KK
        refine wpAnyH_mono (S' := (fun w' : World => Below Y10x3.heap.size Y10x3 w')) (fun w1 h => C3.out.trans (h.mono C3.out.size)) _ _ _ _ ?_
        clear C3
        try simp only [Act.put, tS1, tS2, tS3]
        clear hm
        refine tkO 14 (fun KK hK => ?_)
        go_simp
        refine (C3.out (Y10x2.heap.size) Y10x3 (rd_blk xs.length HL0.out hmax MB.out)).mono ?_
        rintro e Y10x4 ⟨rfl, hy⟩
        replace MB := Lib.hid (MB.out.below hy MB.out.lt)
        have E4 := Lib.hid (E3.out.trans (hy.mono E3.out.size))
        have C4 := Lib.hid hy
        clear hy E3
        refine hK.out _ _ C4.out (fun _ => ?_)
        clear hK KK
        refine wpAnyH_mono (S' := (fun w' : World => Below Y10x4.heap.size Y10x4 w')) (fun w1 h => C4.out.trans (h.mono C4.out.size)) _ _ _ _ ?_
        clear C4
        try simp only [Act.put, tS1, tS2, tS3]
        refine tkA 15 (?_) ?_ (Below.refl _ _) ?_
        rotate_left
        · (intro w1 hS; go_simp; try with_reducible rfl)
        simp only [Act.put, tS1, tS2, tS3]
        refine tkO 19 (fun KK hK => ?_)
        go_simp
        refine (C4.out g3 Y10x4 (rd_blk xs.length HLZ.out hmax (Z.out.below E4.out Z.out.lt))).mono ?_
        rintro e Y10x5 ⟨rfl, hy⟩
        replace MB := Lib.hid (MB.out.below hy MB.out.lt)
        have E5 := Lib.hid (E4.out.trans (hy.mono E4.out.size))
        have C5 := Lib.hid hy
        clear hy E4
        refine hK.out _ _ C5.out (fun _ => ?_)
        clear hK KK
        refine wpAnyH_mono (S' := (fun w' : World => Below Y10x5.heap.size Y10x5 w')) (fun w1 h => C5.out.trans (h.mono C5.out.size)) _ _ _ _ ?_
        clear C5
        try simp only [Act.put, tS1, tS2, tS3]
        refine tkA 20 (?_) ?_ (Below.refl _ _) ?_
        rotate_left
        · (intro w1 hS; go_simp; try with_reducible rfl)
        simp only [Act.put, tS1, tS2, tS3]
        refine tkA 21 (?_) ?_ (Below.refl _ _) ?_
        rotate_left
        · (intro w1 hS; go_simp; try with_reducible rfl)
        simp only [Act.put, tS1, tS2, tS3]
        refine tkO 22 (fun KK hK => ?_)
        go_simp
        refine (CA.out Y10x5).mono ?_
        rintro e Y10x6 ⟨rfl, hy⟩
        replace MB := Lib.hid (MB.out.below hy MB.out.lt)
        have E6 := Lib.hid (E5.out.trans (hy.mono E5.out.size))
        have C6 := Lib.hid hy
        clear hy E5
        refine hK.out _ _ C6.out (fun _ => ?_)
        clear hK KK
        refine wpAnyH_mono (S' := (fun w' : World => Below Y10x6.heap.size Y10x6 w')) (fun w1 h => C6.out.trans (h.mono C6.out.size)) _ _ _ _ ?_
        clear C6
        try simp only [Act.put, tS1, tS2, tS3]
        refine tkA 23 (?_) ?_ (Below.refl _ _) ?_
        rotate_left
        · (intro w1 hS; go_simp; try with_reducible rfl)
        simp only [Act.put, tS1, tS2, tS3]
        refine tkA 24 (?_) ?_ (Below.refl _ _) ?_
        rotate_left
        · (intro w1 hS; go_simp; try with_reducible rfl)
        simp only [Act.put, tS1, tS2, tS3]
        refine wpAnyH_done (by kernel_rfl) ?_ _
        have hy := E6.out
        replace K := Lib.hid (K.out.trans (hy.mono K.out.size))
        replace Xx := Lib.hid (Xx.out.below hy)
        replace Xy := Lib.hid (Xy.out.below hy)
        replace Xz := Lib.hid (Xz.out.below hy)
        replace N := Lib.hid (N.out.below hy N.out.lt)
        replace Z := Lib.hid (Z.out.below hy Z.out.lt)
        clear hy E6
        go_wp2
        go_ret
        exact ⟨rfl, K.out⟩
      refine AllReadyH.cons (o := { dst := some 68, op := Op.makeSlice 23 (Operand.tmp 67) (Operand.tmp 67), type := 23, pos := "law.go:69", after := #[{ on := 12, ground := Ground.data }, { on := 12, ground := Ground.data }], guard := none }) rfl (fun KK hK => ?_) AllReadyH.nil
      · rw [if_pos (by rfl)]
        refine wp_bytes (.tmp 67) (.tmp 67) rfl xs.length hnm rfl rfl ?_
        intro Y10x2 hm hy
        rw [← HO.out] at hm
        have E2 := Lib.hid (E1.out.trans (hy.mono E1.out.size))
        have C2 := Lib.hid hy
        have MB := Lib.hid (hm)
        clear hy E1
        refine hK.out _ _ C2.out (fun _ => ?_)
        clear hK KK
        refine wpAnyH_mono (S' := (fun w' : World => Below Y10x2.heap.size Y10x2 w')) (fun w1 h => C2.out.trans (h.mono C2.out.size)) _ _ _ _ ?_
        clear C2
        try simp only [Act.put, tS1, tS2, tS3]
        clear hm
        refine tkO 7 (fun KK hK => ?_)
        go_simp
        refine (C2.out Y10x2 (Xz.out.below E2.out)).mono ?_
        rintro e Y10x3 ⟨rfl, hy⟩
        replace MB := Lib.hid (MB.out.below hy MB.out.lt)
        have E3 := Lib.hid (E2.out.trans (hy.mono E2.out.size))
        have C3 := Lib.hid hy
        clear hy E2
        refine hK.out _ _ C3.out (fun _ => ?_)
        clear hK KK
        refine wpAnyH_mono (S' := (fun w' : World => Below Y10x3.heap.size Y10x3 w')) (fun w1 h => C3.out.trans (h.mono C3.out.size)) _ _ _ _ ?_
        clear C3
        try simp only [Act.put, tS1, tS2, tS3]
        refine tkA 8 (?_) ?_ (Below.refl _ _) ?_
        rotate_left
        · (intro w1 hS; go_simp; try with_reducible rfl)
        simp only [Act.put, tS1, tS2, tS3]
        refine tkO 14 (fun KK hK => ?_)
        go_simp
        refine (C3.out (Y10x1.heap.size) Y10x3 (rd_blk xs.length HL0.out hmax MB.out)).mono ?_
        rintro e Y10x4 ⟨rfl, hy⟩
        replace MB := Lib.hid (MB.out.below hy MB.out.lt)
        have E4 := Lib.hid (E3.out.trans (hy.mono E3.out.size))
        have C4 := Lib.hid hy
        clear hy E3
        refine hK.out _ _ C4.out (fun _ => ?_)
        clear hK KK
        refine wpAnyH_mono (S' := (fun w' : World => Below Y10x4.heap.size Y10x4 w')) (fun w1 h => C4.out.trans (h.mono C4.out.size)) _ _ _ _ ?_
        clear C4
        try simp only [Act.put, tS1, tS2, tS3]
        refine tkA 15 (?_) ?_ (Below.refl _ _) ?_
        rotate_left
        · (intro w1 hS; go_simp; try with_reducible rfl)
        simp only [Act.put, tS1, tS2, tS3]
        refine tkO 19 (fun KK hK => ?_)
        go_simp
        refine (C4.out g3 Y10x4 (rd_blk xs.length HLZ.out hmax (Z.out.below E4.out Z.out.lt))).mono ?_
        rintro e Y10x5 ⟨rfl, hy⟩
        replace MB := Lib.hid (MB.out.below hy MB.out.lt)
        have E5 := Lib.hid (E4.out.trans (hy.mono E4.out.size))
        have C5 := Lib.hid hy
        clear hy E4
        refine hK.out _ _ C5.out (fun _ => ?_)
        clear hK KK
        refine wpAnyH_mono (S' := (fun w' : World => Below Y10x5.heap.size Y10x5 w')) (fun w1 h => C5.out.trans (h.mono C5.out.size)) _ _ _ _ ?_
        clear C5
        try simp only [Act.put, tS1, tS2, tS3]
        refine tkA 20 (?_) ?_ (Below.refl _ _) ?_
        rotate_left
        · (intro w1 hS; go_simp; try with_reducible rfl)
        simp only [Act.put, tS1, tS2, tS3]
        refine tkA 21 (?_) ?_ (Below.refl _ _) ?_
        rotate_left
        · (intro w1 hS; go_simp; try with_reducible rfl)
        simp only [Act.put, tS1, tS2, tS3]
        refine tkO 22 (fun KK hK => ?_)
        go_simp
        refine (CA.out Y10x5).mono ?_
        rintro e Y10x6 ⟨rfl, hy⟩
        replace MB := Lib.hid (MB.out.below hy MB.out.lt)
        have E6 := Lib.hid (E5.out.trans (hy.mono E5.out.size))
        have C6 := Lib.hid hy
        clear hy E5
        refine hK.out _ _ C6.out (fun _ => ?_)
        clear hK KK
        refine wpAnyH_mono (S' := (fun w' : World => Below Y10x6.heap.size Y10x6 w')) (fun w1 h => C6.out.trans (h.mono C6.out.size)) _ _ _ _ ?_
        clear C6
        try simp only [Act.put, tS1, tS2, tS3]
        refine tkA 23 (?_) ?_ (Below.refl _ _) ?_
        rotate_left
        · (intro w1 hS; go_simp; try with_reducible rfl)
        simp only [Act.put, tS1, tS2, tS3]
        refine tkA 24 (?_) ?_ (Below.refl _ _) ?_
        rotate_left
        · (intro w1 hS; go_simp; try with_reducible rfl)
        simp only [Act.put, tS1, tS2, tS3]
        refine wpAnyH_done (by kernel_rfl) ?_ _
        have hy := E6.out
        replace K := Lib.hid (K.out.trans (hy.mono K.out.size))
        replace Xx := Lib.hid (Xx.out.below hy)
        replace Xy := Lib.hid (Xy.out.below hy)
        replace Xz := Lib.hid (Xz.out.below hy)
        replace N := Lib.hid (N.out.below hy N.out.lt)
        replace Z := Lib.hid (Z.out.below hy Z.out.lt)
        clear hy E6
        go_wp2
        go_ret
        exact ⟨rfl, K.out⟩
    refine AllReadyH.cons (o := { dst := some 68, op := Op.makeSlice 23 (Operand.tmp 67) (Operand.tmp 67), type := 23, pos := "law.go:69", after := #[{ on := 12, ground := Ground.data }, { on := 12, ground := Ground.data }], guard := none }) rfl (fun KK hK => ?_) AllReadyH.nil
    · rw [if_pos (by rfl)]
      refine wp_bytes (.tmp 67) (.tmp 67) rfl xs.length hnm rfl rfl ?_
      intro Y10x1 hm hy
      rw [← HO.out] at hm
      have E1 := Lib.hid (E0.out.trans (hy.mono E0.out.size))
      have C1 := Lib.hid E1.out
      have MB := Lib.hid (hm)
      clear hy E0
      refine hK.out _ _ C1.out (fun _ => ?_)
      clear hK KK
      refine wpAnyH_mono (S' := (fun w' : World => Below Y10x1.heap.size Y10x1 w')) (fun w1 h => C1.out.trans (h.mono C1.out.size)) _ _ _ _ ?_
      clear C1
      try simp only [Act.put, tS1, tS2, tS3]
      clear hm
      refine tkO 3 (fun KK hK => ?_)
      go_simp
      refine (C1.out Y10x1 (Xx.out.below E1.out)).mono ?_
      rintro e Y10x2 ⟨rfl, hy⟩
      replace MB := Lib.hid (MB.out.below hy MB.out.lt)
      have E2 := Lib.hid (E1.out.trans (hy.mono E1.out.size))
      have C2 := Lib.hid hy
      clear hy E1
      refine hK.out _ _ C2.out (fun _ => ?_)
      clear hK KK
      refine wpAnyH_mono (S' := (fun w' : World => Below Y10x2.heap.size Y10x2 w')) (fun w1 h => C2.out.trans (h.mono C2.out.size)) _ _ _ _ ?_
      clear C2
      try simp only [Act.put, tS1, tS2, tS3]
      refine tkO 7 (fun KK hK => ?_)
      go_simp
      refine (C2.out Y10x2 (Xz.out.below E2.out)).mono ?_
      rintro e Y10x3 ⟨rfl, hy⟩
      replace MB := Lib.hid (MB.out.below hy MB.out.lt)
      have E3 := Lib.hid (E2.out.trans (hy.mono E2.out.size))
      have C3 := Lib.hid hy
      clear hy E2
      refine hK.out _ _ C3.out (fun _ => ?_)
      clear hK KK
      refine wpAnyH_mono (S' := (fun w' : World => Below Y10x3.heap.size Y10x3 w')) (fun w1 h => C3.out.trans (h.mono C3.out.size)) _ _ _ _ ?_
      clear C3
      try simp only [Act.put, tS1, tS2, tS3]
      refine tkA 8 (?_) ?_ (Below.refl _ _) ?_
      rotate_left
      · (intro w1 hS; go_simp; try with_reducible rfl)
      simp only [Act.put, tS1, tS2, tS3]
      refine tkO 14 (fun KK hK => ?_)
      go_simp
      refine (C3.out (Y10x0.heap.size) Y10x3 (rd_blk xs.length HL0.out hmax MB.out)).mono ?_
      rintro e Y10x4 ⟨rfl, hy⟩
      replace MB := Lib.hid (MB.out.below hy MB.out.lt)
      have E4 := Lib.hid (E3.out.trans (hy.mono E3.out.size))
      have C4 := Lib.hid hy
      clear hy E3
      refine hK.out _ _ C4.out (fun _ => ?_)
      clear hK KK
      refine wpAnyH_mono (S' := (fun w' : World => Below Y10x4.heap.size Y10x4 w')) (fun w1 h => C4.out.trans (h.mono C4.out.size)) _ _ _ _ ?_
      clear C4
      try simp only [Act.put, tS1, tS2, tS3]
      refine tkA 15 (?_) ?_ (Below.refl _ _) ?_
      rotate_left
      · (intro w1 hS; go_simp; try with_reducible rfl)
      simp only [Act.put, tS1, tS2, tS3]
      refine tkO 19 (fun KK hK => ?_)
      go_simp
      refine (C4.out g3 Y10x4 (rd_blk xs.length HLZ.out hmax (Z.out.below E4.out Z.out.lt))).mono ?_
      rintro e Y10x5 ⟨rfl, hy⟩
      replace MB := Lib.hid (MB.out.below hy MB.out.lt)
      have E5 := Lib.hid (E4.out.trans (hy.mono E4.out.size))
      have C5 := Lib.hid hy
      clear hy E4
      refine hK.out _ _ C5.out (fun _ => ?_)
      clear hK KK
      refine wpAnyH_mono (S' := (fun w' : World => Below Y10x5.heap.size Y10x5 w')) (fun w1 h => C5.out.trans (h.mono C5.out.size)) _ _ _ _ ?_
      clear C5
      try simp only [Act.put, tS1, tS2, tS3]
      refine tkA 20 (?_) ?_ (Below.refl _ _) ?_
      rotate_left
      · (intro w1 hS; go_simp; try with_reducible rfl)
      simp only [Act.put, tS1, tS2, tS3]
      refine tkA 21 (?_) ?_ (Below.refl _ _) ?_
      rotate_left
      · (intro w1 hS; go_simp; try with_reducible rfl)
      simp only [Act.put, tS1, tS2, tS3]
      refine tkO 22 (fun KK hK => ?_)
      go_simp
      refine (CA.out Y10x5).mono ?_
      rintro e Y10x6 ⟨rfl, hy⟩
      replace MB := Lib.hid (MB.out.below hy MB.out.lt)
      have E6 := Lib.hid (E5.out.trans (hy.mono E5.out.size))
      have C6 := Lib.hid hy
      clear hy E5
      refine hK.out _ _ C6.out (fun _ => ?_)
      clear hK KK
      refine wpAnyH_mono (S' := (fun w' : World => Below Y10x6.heap.size Y10x6 w')) (fun w1 h => C6.out.trans (h.mono C6.out.size)) _ _ _ _ ?_
      clear C6
      try simp only [Act.put, tS1, tS2, tS3]
      refine tkA 23 (?_) ?_ (Below.refl _ _) ?_
      rotate_left
      · (intro w1 hS; go_simp; try with_reducible rfl)
      simp only [Act.put, tS1, tS2, tS3]
      refine tkA 24 (?_) ?_ (Below.refl _ _) ?_
      rotate_left
      · (intro w1 hS; go_simp; try with_reducible rfl)
      simp only [Act.put, tS1, tS2, tS3]
      refine wpAnyH_done (by kernel_rfl) ?_ _
      have hy := E6.out
      replace K := Lib.hid (K.out.trans (hy.mono K.out.size))
      replace Xx := Lib.hid (Xx.out.below hy)
      replace Xy := Lib.hid (Xy.out.below hy)
      replace Xz := Lib.hid (Xz.out.below hy)
      replace N := Lib.hid (N.out.below hy N.out.lt)
      replace Z := Lib.hid (Z.out.below hy Z.out.lt)
      clear hy E6
      go_wp2
      go_ret
      exact ⟨rfl, K.out⟩
end Go.Proofs.Ythgcgkfcofomcaa
