/- Texts that the walks of this seat lean on, put together. -/
import Derived.Deep.DeepCutAuto
import Derived.Test.YtnpibdjfafpegaaTk
import Derived.Test.YtnpibdjfafpegaaM04
import Derived.Test.YtnpibdjfafpegaaM13
import Derived.Test.YtnpibdjfafpegaaM17
import Derived.Test.YtnpibdjfafpegaaM19
namespace Go.Proofs.Ytnpibdjfafpegaa
open Go.RowKit
theorem i32 : (Try.prog.info? 72).map (·.size) = some 37 := by kernel_rfl
set_option maxRecDepth 100000 in
theorem built_ref (s l p : Nat) (S D : Array Value) (hS : S.size = 17) (hD : D.size = 17) : Try.prog.built 72 [(0, .int .i64 (s : Int)), (1, .int .i64 (l : Int)), (2, .int .u8 (p : Int)), (3, .agg S), (4, .agg D)] = some (hcells s l p S D) := by
  obtain ⟨x0, x1, x2, x3, x4, x5, x6, x7, x8, x9, x10, x11, x12, x13, x14, x15, x16, rfl⟩ := arr17 S hS
  obtain ⟨y0, y1, y2, y3, y4, y5, y6, y7, y8, y9, y10, y11, y12, y13, y14, y15, y16, rfl⟩ := arr17 D hD
  kernel_rfl
theorem hcells_get (s l p : Nat) (S D : Array Value) : (hcells s l p S D)[0]? = some (.int .i64 (s : Int)) ∧ (hcells s l p S D)[1]? = some (.int .i64 (l : Int)) ∧ (hcells s l p S D)[2]? = some (.int .u8 (p : Int)) := ⟨rfl, rfl, rfl⟩
theorem low14i (x : Nat) (_h : x < 65536) : bits .and .i64 (x : Int) 16383 = ((x % 16384 : Nat) : Int) := by
  have e : (BitVec.ofInt 64 16383).toNat = 2 ^ 14 - 1 := by decide
  have key : (BitVec.ofInt 64 (x : Int) &&& BitVec.ofInt 64 16383).toNat = ((x : Int) % ((2 ^ 64 : Nat) : Int)).toNat % 2 ^ 14 := by
    rw [BitVec.toNat_and, BitVec.toNat_ofInt, e, Nat.and_two_pow_sub_one_eq_mod]
  show IntKind.i64.wrap ((BitVec.ofInt 64 (x : Int) &&& BitVec.ofInt 64 16383).toNat : Nat) = _
  rw [key, IntKind.wrap_i64]
  omega
theorem mul4 (x : Nat) : IntKind.i64.wrap (IntKind.i64.wrap ((x : Int) % 16) * 4) = ((4 * (x % 16) : Nat) : Int) := by
  have h : IntKind.i64.wrap ((x : Int) % 16) = (x : Int) % 16 := by rw [IntKind.wrap_i64]; omega
  rw [h, IntKind.wrap_i64]
  omega
set_option maxRecDepth 100000 in
set_option maxHeartbeats 800000 in
theorem rfour_short (v : Value) (zs : List Nat) (w : World) (hr : Rd w v (nus .u8 zs)) (h20 : zs.length < 20) :
    Calls Try.prog 36 #[v] w fun e w' => e = .returned (.tuple #[.agg h0, .int .i64 1]) ∧ Below w.heap.size w w' := by
  obtain ⟨a, cap, rfl, -, -⟩ := rd_shape hr
  have NB := Lib.hid (show Blk (w.alloc (.cells Zc37 72)) w.heap.size 72 h0 from Blk.new w 72 h0)
  have K := Lib.hid (show Below w.heap.size w (w.alloc (.cells Zc37 72)) from (Below.refl w.heap.size w).alloc (Nat.le_refl _) _)
  have ZH := Lib.hid (i32.trans (congrArg some h0_size.symm))
  clear hr
  generalize zs.length = n at *
  go_enter Try.func36, Try.ntmps36
  go_wp2_with (((with_reducible refine wpList_blk_store (op := ⟨none, .store 72 (.tmp 2) (.tmp 8), _, _, _, _⟩) ?sg1 72 (.tmp 2) (.tmp 8) ?so1 (w.heap.size) h0 ?sx1 ?sy1 NB.out rfl ZH.out h0_all ?_); (case sg1 => rfl); (case so1 => rfl); (case sx1 => rfl); (case sy1 => rfl)))
  intro W2 hA hF hB
  have HA := Lib.hid hA
  have HB := Lib.hid (K.out.trans (hB _ (Nat.le_refl _)))
  clear hA hF hB
  go_wp2
  have hrun := run_blk_load (P := Try.prog) 72 w.heap.size _ HA.out Try.underlying72 rfl ZH.out
  exact bodyPost_ret (results_cell_tmp 2 72 3 w.heap.size _ Try.results36 rfl hrun) rfl ⟨rfl, HB.out⟩
set_option maxRecDepth 100000 in
set_option maxHeartbeats 4000000 in
theorem rfour_long (v : Value) (zs : List Nat) (w : World) (hr : Rd w v (nus .u8 zs)) (hb : ∀ c ∈ zs, c < 256) (hz : zs.length ≤ 3000) (h20 : ¬ zs.length < 20) :
    Calls Try.prog 36 #[v] w fun e w' => e = .returned (.tuple #[.agg (hd zs), .int .i64 (ff zs : Nat)]) ∧ Below w.heap.size w w' := by
  have HR := Lib.hid hr
  obtain ⟨a, cap, rfl, h1, h2⟩ := rd_shape hr
  obtain ⟨b, off, rfl, hc⟩ := hr.cells (by omega)
  have l1 : ((zs.drop 12).take 4).length = 4 := by simp; omega
  have l2 : ((zs.drop 16).take 4).length = 4 := by simp; omega
  have CS := Lib.hid (fun w' (hw : Rd w' (.slice (some ⟨b, off + 12, none⟩) 4 (cap - 12)) (nus .u8 ((zs.drop 12).take 4))) => rv4_any _ ((zs.drop 12).take 4) w' hw l1)
  have CD := Lib.hid (fun w' (hw : Rd w' (.slice (some ⟨b, off + 16, none⟩) 4 (cap - 16)) (nus .u8 ((zs.drop 16).take 4))) => rv4_any _ ((zs.drop 16).take 4) w' hw l2)
  have R1 := Lib.hid (hr.sub 12 4 (by omega))
  have R2 := Lib.hid (hr.sub 16 4 (by omega))
  obtain ⟨va, hva⟩ : ∃ va, va = Value.slice (some ⟨b, off, none⟩) zs.length cap := ⟨_, rfl⟩
  have B16 := Lib.hid (fun w' (h : Rd w' (.slice (some ⟨b, off, none⟩) zs.length cap) (nus .u8 zs)) => (be16_any _ _ _ 2 zs w' h hb (by omega)).mono fun e w1 hh => show e = .returned (.int .i64 (u2 zs 2 : Nat)) ∧ Below w'.heap.size w' w1 from ⟨hh.1, by obtain ⟨k, rfl⟩ := hh.2; exact below_drewN (Below.refl _ _) k⟩)
  have B6 := Lib.hid (fun w' (h : Rd w' (.slice (some ⟨b, off, none⟩) zs.length cap) (nus .u8 zs)) => (be16_any _ _ _ 6 zs w' h hb (by omega)).mono fun e w1 hh => show e = .returned (.int .i64 (u2 zs 6 : Nat)) ∧ Below w'.heap.size w' w1 from ⟨hh.1, by obtain ⟨k, rfl⟩ := hh.2; exact below_drewN (Below.refl _ _) k⟩)
  have CK := Lib.hid (fun w' h => rcheck_any (.slice (some ⟨b, off, none⟩) (hs zs) cap) (zs.take (hs zs)) w' h (by have q60 := hs_lt zs; rw [List.length_take]; omega) (fun c hc => hb c (List.mem_of_mem_take hc)))
  have HFr := Lib.hid (fun w' (h : Rd w' (.slice (some ⟨b, off, none⟩) zs.length cap) (nus .u8 zs)) => h.front (hs zs))
  have c0 := hc 0 (by omega)
  have c9 := hc 9 (by omega)
  have hx := getD_lt zs hb 0
  have hp := getD_lt zs hb 9
  have hl := u2_lt zs 2 hb
  have hg := u2_lt zs 6 hb
  have hs4 := hs_lt zs
  have hck := ck_le (zs.take (hs zs))
  have HL := Lib.hid (low4 _ hx)
  have HG := Lib.hid (low14i _ hg)
  have hhs : hs zs = 4 * (zs.getD 0 0 % 16) := rfl
  have hsS := a4_size ((zs.drop 12).take 4) (by omega)
  have hsD := a4_size ((zs.drop 16).take 4) (by omega)
  have haS := a4_all ((zs.drop 12).take 4)
  have haD := a4_all ((zs.drop 16).take 4)
  have hb0 : b < w.heap.size := by
    rcases Nat.lt_or_ge b w.heap.size with h | h
    · exact h
    · simp [World.cell?, Array.getElem?_eq_none h] at c0
  have hh : hd zs = if ff zs = 0 then hcells (hs zs) (u2 zs 2) (zs.getD 9 0) (a4 ((zs.drop 12).take 4)) (a4 ((zs.drop 16).take 4)) else h0 := rfl
  have hf : ff zs = _ := rfl
  conv at hf => rhs; unfold ff
  have HH := Lib.hid hh
  have HF := Lib.hid hf
  unfold maxLen at h2
  rw [Nat.add_zero] at c0
  have C0 := Lib.hid c0
  have C9 := Lib.hid c9
  have N0a := Lib.hid (show Blk (w.alloc (.cells Zc37 72)) w.heap.size 72 h0 from Blk.new w 72 h0)
  have K0a := Lib.hid (show Below w.heap.size w (w.alloc (.cells Zc37 72)) from (Below.refl w.heap.size w).alloc (Nat.le_refl _) _)
  clear hc hr hb hva va c0 c9 l1 l2 hh hf
  generalize hd zs = HDV at *
  generalize ff zs = F at *
  generalize a4 ((zs.drop 12).take 4) = S at *
  generalize a4 ((zs.drop 16).take 4) = D at *
  generalize (zs.drop 12).take 4 = Sb at *
  generalize (zs.drop 16).take 4 = Db at *
  generalize zs.getD 0 0 = x at *
  generalize zs.getD 9 0 = p at *
  generalize ck (zs.take (hs zs)) = q at *
  generalize zs.take (hs zs) = T at *
  generalize hs zs = s at *
  generalize u2 zs 2 = l at *
  generalize u2 zs 6 = fg at *
  generalize zs.length = n at *
  skip
  have hmul : IntKind.i64.wrap (IntKind.i64.wrap ((x : Int) % 16) * 4) = (s : Int) := by rw [hhs]; exact mul4 x
  have HBD := Lib.hid (built_ref s l p S D hsS hsD)
  have hcs := hcells_size s l p S D hsS hsD
  have hca := hcells_all s l p S D haS haD
  have HCG := Lib.hid (hcells_get s l p S D)
  obtain ⟨hc, hhc⟩ : ∃ x, x = hcells s l p S D := ⟨_, rfl⟩
  rw [← hhc] at HBD hcs hca HCG HH
  have Z32 := Lib.hid (i32.trans (congrArg some hcs.symm))
  have Z0 := Lib.hid (hcs.trans h0_size.symm)
  have AC := Lib.hid hca
  have ZH := Lib.hid (i32.trans (congrArg some h0_size.symm))
  have h9n : (9 : Int) < (n : Int) := by omega
  have h0n : 0 < n := by omega
  have HMUL := Lib.hid hmul
  have HS4 := Lib.hid hhs
  clear hcs hca hhc hsS hsD haS haD hmul hhs
  go_enter Try.func36, Try.ntmps36
  go_upto_region 3 with fail
  generalize w.alloc (.cells Zc37 72) = W0 at N0a K0a ⊢
  have N := N0a
  have K0 := K0a
  clear N0a K0a
  have c0w : ∀ W', Below w.heap.size w W' → W'.cell? ⟨b, off, none⟩ = some (.int .u8 (x : Int)) := fun W' h => (h.cell (p := ⟨b, off, none⟩) hb0).trans C0.out
  have c9w : ∀ W', Below w.heap.size w W' → W'.cell? ⟨b, off + 9, none⟩ = some (.int .u8 (p : Int)) := fun W' h => (h.cell (p := ⟨b, off + 9, none⟩) hb0).trans C9.out
  go_cut [4] (fun v wx => ∃ g, v = .pointer (some ⟨g, 0, none⟩) ∧ Blk wx g 72 hc ∧ Blk wx w.heap.size 72 h0 ∧ Below w.heap.size w wx)
  case first =>
    refine wp_region_held (S := (fun w' : World => Below w.heap.size w w')) (by kernel_rfl) ?_
    change wpAnyH _ _ _ _ _ _ _ _ W0.drew
    have hE0 : Below w.heap.size w W0.drew := K0.out.drew
    have qN0 := N.out.below (show Below W0.heap.size W0 W0.drew from (Below.refl _ _).drew) N.out.lt
    generalize W0.drew = Y0 at hE0 qN0 ⊢
    have E0 := Lib.hid hE0
    have N0 := Lib.hid qN0
    clear hE0 qN0
    refine tkA 0 (?_) ?_ E0.out ?_
    rotate_left
    · (intro w1 hS; go_simp; try with_reducible rfl)
    simp only [Act.put, tS1, tS2, tS3]
    refine tkA 1 (?_) ?_ E0.out ?_
    rotate_left
    · (intro w1 hS; have hW := hS; have q := c0w w1 hW; have q9 := h0n; clear hW hS; go_simp; try with_reducible rfl)
    simp only [Act.put, tS1, tS2, tS3]
    refine tkA 2 (?_) ?_ E0.out ?_
    rotate_left
    · (intro w1 hS; have hW := hS; have q := c0w w1 hW; have q9 := h0n; clear hW hS; go_simp; try with_reducible rfl)
    simp only [Act.put, tS1, tS2, tS3]
    refine tkA 3 (?_) ?_ E0.out ?_
    rotate_left
    · (intro w1 hS; have hW := hS; have q := HL.out; clear hW hS; go_simp; try with_reducible rfl)
    simp only [Act.put, tS1, tS2, tS3]
    refine tkA 4 (?_) ?_ E0.out ?_
    rotate_left
    · (intro w1 hS; go_simp; try with_reducible rfl)
    simp only [Act.put, tS1, tS2, tS3]
    refine tkA 5 (?_) ?_ E0.out ?_
    rotate_left
    · (intro w1 hS; have hW := hS; have q := HMUL.out; clear hW hS; go_simp; try with_reducible rfl)
    simp only [Act.put, tS1, tS2, tS3]
    refine tkA 6 (?_) ?_ E0.out ?_
    rotate_left
    · (intro w1 hS; go_simp; try with_reducible rfl)
    simp only [Act.put, tS1, tS2, tS3]
    refine tkA 8 (?_) ?_ E0.out ?_
    rotate_left
    · (intro w1 hS; go_simp; try with_reducible rfl)
    simp only [Act.put, tS1, tS2, tS3]
    refine tkA 9 (?_) ?_ E0.out ?_
    rotate_left
    · (intro w1 hS; have hW := hS; have q := c9w w1 hW; have q9 := h9n; clear hW hS; go_simp; try with_reducible rfl)
    simp only [Act.put, tS1, tS2, tS3]
    refine tkA 10 (?_) ?_ E0.out ?_
    rotate_left
    · (intro w1 hS; have hW := hS; have q := c9w w1 hW; have q9 := h9n; clear hW hS; go_simp; try with_reducible rfl)
    simp only [Act.put, tS1, tS2, tS3]
    refine tkA 11 (?_) ?_ E0.out ?_
    rotate_left
    · (intro w1 hS; go_simp; try with_reducible rfl)
    simp only [Act.put, tS1, tS2, tS3]
    refine tkA 12 (?_) ?_ E0.out ?_
    rotate_left
    · (intro w1 hS; have hW := hS; have q : (16 : Int) ≤ (cap : Int) := (by omega); have q2 : (cap = 12) = False := (eq_false (by omega)); clear hW hS; go_simp; try with_reducible rfl)
    simp only [Act.put, tS1, tS2, tS3]
    refine tkA 14 (?_) ?_ E0.out ?_
    rotate_left
    · (intro w1 hS; go_simp; try with_reducible rfl)
    simp only [Act.put, tS1, tS2, tS3]
    refine tkA 15 (?_) ?_ E0.out ?_
    rotate_left
    · (intro w1 hS; have hW := hS; have q : (20 : Int) ≤ (cap : Int) := (by omega); have q2 : (cap = 16) = False := (eq_false (by omega)); clear hW hS; go_simp; try with_reducible rfl)
    simp only [Act.put, tS1, tS2, tS3]
    refine wpAnyH_ready (rs := [7, 18]) (by kernel_rfl) (by simp) ?_
    refine AllReadyH.cons (o := { dst := some 16, op := Op.call { callee := Callee.value (Operand.func 35), args := #[Operand.tmp 15, Operand.const (Value.int IntKind.i64 2)], argTypes := #[22, 3] }, type := 3, pos := "frame.go:192", after := #[{ on := 6, ground := Ground.data }], guard := none }) rfl (fun K hK => ?_) ?_
    · go_simp
      refine (B16.out Y0 (HR.out.below E0.out)).mono ?_
      rintro e Y1 ⟨rfl, hy⟩
      have E1 := Lib.hid (E0.out.trans (hy.mono E0.out.size))
      have N1 := Lib.hid (N0.out.below hy N0.out.lt)
      refine hK.out _ _ E1.out (fun _ => ?_)
      clear hK K hy
      try simp only [Act.put, tS1, tS2, tS3]
      refine wpAnyH_ready (rs := [13, 18]) (by kernel_rfl) (by simp) ?_
      refine AllReadyH.cons (o := { dst := some 22, op := Op.call { callee := Callee.value (Operand.func 49), args := #[Operand.tmp 21], argTypes := #[22] }, type := 27, pos := "frame.go:192", after := #[{ on := 12, ground := Ground.data }, { on := 7, ground := Ground.chain }], guard := none }) rfl (fun K hK => ?_) ?_
      · go_simp
        refine (CS.out Y1 (R1.out.below E1.out)).mono ?_
        rintro e Y2 ⟨rfl, hy⟩
        have E2 := Lib.hid (E1.out.trans (hy.mono E1.out.size))
        have N2 := Lib.hid (N1.out.below hy N1.out.lt)
        refine hK.out _ _ E2.out (fun _ => ?_)
        clear hK K hy
        try simp only [Act.put, tS1, tS2, tS3]
        refine wpAnyH_ready (rs := [16, 18]) (by kernel_rfl) (by simp) ?_
        refine AllReadyH.cons (o := { dst := some 25, op := Op.call { callee := Callee.value (Operand.func 49), args := #[Operand.tmp 24], argTypes := #[22] }, type := 27, pos := "frame.go:192", after := #[{ on := 15, ground := Ground.data }, { on := 13, ground := Ground.chain }], guard := none }) rfl (fun K hK => ?_) ?_
        · go_simp
          refine (CD.out Y2 (R2.out.below E2.out)).mono ?_
          rintro e Y3 ⟨rfl, hy⟩
          have E3 := Lib.hid (E2.out.trans (hy.mono E2.out.size))
          have N3 := Lib.hid (N2.out.below hy N2.out.lt)
          refine hK.out _ _ E3.out (fun _ => ?_)
          clear hK K hy
          try simp only [Act.put, tS1, tS2, tS3]
          refine tkA 17 (.agg hc) ?_ E3.out ?_
          · (intro w1 hS; exact exec_build 72 _ rfl #[(0, .int .i64 (s : Int)), (1, .int .i64 (l : Int)), (2, .int .u8 (p : Int)), (3, .agg S), (4, .agg D)] (by kernel_rfl) hc HBD.out)
          simp only [Act.put, tS1, tS2, tS3]
          refine tkO 18 (fun K hK => ?_)
          go_simp
          have ha := Blk.new Y3 72 Zc37
          have hb := (Below.refl Y3.heap.size Y3).alloc (Nat.le_refl _) (.cells Zc37 72)
          have E4 := Lib.hid (E3.out.alloc E3.out.size (.cells Zc37 72))
          have N4 := Lib.hid (N3.out.below hb N3.out.lt)
          have G4 := Lib.hid (show Blk _ Y3.heap.size 72 h0 from ha)
          have g4 := Lib.hid E3.out.size
          have d4 := Lib.hid (Nat.ne_of_lt N3.out.lt)
          generalize Y3.alloc (.cells Zc37 72) = Y4 at E4 N4 G4 ⊢
          clear ha hb
          refine hK.out _ _ E4.out (fun _ => ?_)
          clear hK K
          try simp only [Act.put, tS1, tS2, tS3]
          refine tkO 19 (fun K hK => ?_)
          rw [if_pos (by rfl)]
          refine wp_blk_store 72 (.tmp 4) (.tmp 26) rfl hc rfl rfl G4.out Z0.out Z32.out AC.out ?_
          intro X hA hF hB
          have KX := Lib.hid (E4.out.trans (hB _ g4.out))
          have NX := Lib.hid (show Blk X w.heap.size 72 h0 from (hF _ d4.out).trans N4.out)
          have GX := Lib.hid hA
          clear hA hF hB
          refine hK.out _ _ KX.out (fun _ => ?_)
          clear hK K
          try simp only [Act.put]
          refine wpAnyH_done (by kernel_rfl) ?_ _
          go_wp2
          go_meet
          exact ⟨_, rfl, GX.out, NX.out, KX.out⟩
        refine AllReadyH.cons (o := { dst := some 4, op := Op.alloc 72, type := 0, pos := "frame.go:192", after := #[], guard := none }) rfl (fun K hK => ?_) AllReadyH.nil
        go_simp
        have ha := Blk.new Y2 72 Zc37
        have hb := (Below.refl Y2.heap.size Y2).alloc (Nat.le_refl _) (.cells Zc37 72)
        have E3 := Lib.hid (E2.out.alloc E2.out.size (.cells Zc37 72))
        have N3 := Lib.hid (N2.out.below hb N2.out.lt)
        have G3 := Lib.hid (show Blk _ Y2.heap.size 72 h0 from ha)
        have g3 := Lib.hid E2.out.size
        have d3 := Lib.hid (Nat.ne_of_lt N2.out.lt)
        generalize Y2.alloc (.cells Zc37 72) = Y3 at E3 N3 G3 ⊢
        clear ha hb
        refine hK.out _ _ E3.out (fun _ => ?_)
        clear hK K
        try simp only [Act.put, tS1, tS2, tS3]
        refine tkO 16 (fun K hK => ?_)
        go_simp
        refine (CD.out Y3 (R2.out.below E3.out)).mono ?_
        rintro e Y4 ⟨rfl, hy⟩
        have E4 := Lib.hid (E3.out.trans (hy.mono E3.out.size))
        have N4 := Lib.hid (N3.out.below hy N3.out.lt)
        have G4 := Lib.hid (G3.out.below hy G3.out.lt)
        have g4 := g3
        have d4 := d3
        refine hK.out _ _ E4.out (fun _ => ?_)
        clear hK K hy
        try simp only [Act.put, tS1, tS2, tS3]
        refine tkA 17 (.agg hc) ?_ E4.out ?_
        · (intro w1 hS; exact exec_build 72 _ rfl #[(0, .int .i64 (s : Int)), (1, .int .i64 (l : Int)), (2, .int .u8 (p : Int)), (3, .agg S), (4, .agg D)] (by kernel_rfl) hc HBD.out)
        simp only [Act.put, tS1, tS2, tS3]
        refine tkO 19 (fun K hK => ?_)
        rw [if_pos (by rfl)]
        refine wp_blk_store 72 (.tmp 4) (.tmp 26) rfl hc rfl rfl G4.out Z0.out Z32.out AC.out ?_
        intro X hA hF hB
        have KX := Lib.hid (E4.out.trans (hB _ g4.out))
        have NX := Lib.hid (show Blk X w.heap.size 72 h0 from (hF _ d4.out).trans N4.out)
        have GX := Lib.hid hA
        clear hA hF hB
        refine hK.out _ _ KX.out (fun _ => ?_)
        clear hK K
        try simp only [Act.put]
        refine wpAnyH_done (by kernel_rfl) ?_ _
        go_wp2
        go_meet
        exact ⟨_, rfl, GX.out, NX.out, KX.out⟩
      refine AllReadyH.cons (o := { dst := some 4, op := Op.alloc 72, type := 0, pos := "frame.go:192", after := #[], guard := none }) rfl (fun K hK => ?_) AllReadyH.nil
      go_simp
      have ha := Blk.new Y1 72 Zc37
      have hb := (Below.refl Y1.heap.size Y1).alloc (Nat.le_refl _) (.cells Zc37 72)
      have E2 := Lib.hid (E1.out.alloc E1.out.size (.cells Zc37 72))
      have N2 := Lib.hid (N1.out.below hb N1.out.lt)
      have G2 := Lib.hid (show Blk _ Y1.heap.size 72 h0 from ha)
      have g2 := Lib.hid E1.out.size
      have d2 := Lib.hid (Nat.ne_of_lt N1.out.lt)
      generalize Y1.alloc (.cells Zc37 72) = Y2 at E2 N2 G2 ⊢
      clear ha hb
      refine hK.out _ _ E2.out (fun _ => ?_)
      clear hK K
      try simp only [Act.put, tS1, tS2, tS3]
      refine tkO 13 (fun K hK => ?_)
      go_simp
      refine (CS.out Y2 (R1.out.below E2.out)).mono ?_
      rintro e Y3 ⟨rfl, hy⟩
      have E3 := Lib.hid (E2.out.trans (hy.mono E2.out.size))
      have N3 := Lib.hid (N2.out.below hy N2.out.lt)
      have G3 := Lib.hid (G2.out.below hy G2.out.lt)
      have g3 := g2
      have d3 := d2
      refine hK.out _ _ E3.out (fun _ => ?_)
      clear hK K hy
      try simp only [Act.put, tS1, tS2, tS3]
      refine tkO 16 (fun K hK => ?_)
      go_simp
      refine (CD.out Y3 (R2.out.below E3.out)).mono ?_
      rintro e Y4 ⟨rfl, hy⟩
      have E4 := Lib.hid (E3.out.trans (hy.mono E3.out.size))
      have N4 := Lib.hid (N3.out.below hy N3.out.lt)
      have G4 := Lib.hid (G3.out.below hy G3.out.lt)
      have g4 := g3
      have d4 := d3
      refine hK.out _ _ E4.out (fun _ => ?_)
      clear hK K hy
      try simp only [Act.put, tS1, tS2, tS3]
      refine tkA 17 (.agg hc) ?_ E4.out ?_
      · (intro w1 hS; exact exec_build 72 _ rfl #[(0, .int .i64 (s : Int)), (1, .int .i64 (l : Int)), (2, .int .u8 (p : Int)), (3, .agg S), (4, .agg D)] (by kernel_rfl) hc HBD.out)
      simp only [Act.put, tS1, tS2, tS3]
      refine tkO 19 (fun K hK => ?_)
      rw [if_pos (by rfl)]
      refine wp_blk_store 72 (.tmp 4) (.tmp 26) rfl hc rfl rfl G4.out Z0.out Z32.out AC.out ?_
      intro X hA hF hB
      have KX := Lib.hid (E4.out.trans (hB _ g4.out))
      have NX := Lib.hid (show Blk X w.heap.size 72 h0 from (hF _ d4.out).trans N4.out)
      have GX := Lib.hid hA
      clear hA hF hB
      refine hK.out _ _ KX.out (fun _ => ?_)
      clear hK K
      try simp only [Act.put]
      refine wpAnyH_done (by kernel_rfl) ?_ _
      go_wp2
      go_meet
      exact ⟨_, rfl, GX.out, NX.out, KX.out⟩
    refine AllReadyH.cons (o := { dst := some 4, op := Op.alloc 72, type := 0, pos := "frame.go:192", after := #[], guard := none }) rfl (fun K hK => ?_) AllReadyH.nil
    go_simp
    have ha := Blk.new Y0 72 Zc37
    have hb := (Below.refl Y0.heap.size Y0).alloc (Nat.le_refl _) (.cells Zc37 72)
    have E1 := Lib.hid (E0.out.alloc E0.out.size (.cells Zc37 72))
    have N1 := Lib.hid (N0.out.below hb N0.out.lt)
    have G1 := Lib.hid (show Blk _ Y0.heap.size 72 h0 from ha)
    have g1 := Lib.hid E0.out.size
    have d1 := Lib.hid (Nat.ne_of_lt N0.out.lt)
    generalize Y0.alloc (.cells Zc37 72) = Y1 at E1 N1 G1 ⊢
    clear ha hb
    refine hK.out _ _ E1.out (fun _ => ?_)
    clear hK K
    try simp only [Act.put, tS1, tS2, tS3]
    refine tkO 7 (fun K hK => ?_)
    go_simp
    refine (B16.out Y1 (HR.out.below E1.out)).mono ?_
    rintro e Y2 ⟨rfl, hy⟩
    have E2 := Lib.hid (E1.out.trans (hy.mono E1.out.size))
    have N2 := Lib.hid (N1.out.below hy N1.out.lt)
    have G2 := Lib.hid (G1.out.below hy G1.out.lt)
    have g2 := g1
    have d2 := d1
    refine hK.out _ _ E2.out (fun _ => ?_)
    clear hK K hy
    try simp only [Act.put, tS1, tS2, tS3]
    refine tkO 13 (fun K hK => ?_)
    go_simp
    refine (CS.out Y2 (R1.out.below E2.out)).mono ?_
    rintro e Y3 ⟨rfl, hy⟩
    have E3 := Lib.hid (E2.out.trans (hy.mono E2.out.size))
    have N3 := Lib.hid (N2.out.below hy N2.out.lt)
    have G3 := Lib.hid (G2.out.below hy G2.out.lt)
    have g3 := g2
    have d3 := d2
    refine hK.out _ _ E3.out (fun _ => ?_)
    clear hK K hy
    try simp only [Act.put, tS1, tS2, tS3]
    refine tkO 16 (fun K hK => ?_)
    go_simp
    refine (CD.out Y3 (R2.out.below E3.out)).mono ?_
    rintro e Y4 ⟨rfl, hy⟩
    have E4 := Lib.hid (E3.out.trans (hy.mono E3.out.size))
    have N4 := Lib.hid (N3.out.below hy N3.out.lt)
    have G4 := Lib.hid (G3.out.below hy G3.out.lt)
    have g4 := g3
    have d4 := d3
    refine hK.out _ _ E4.out (fun _ => ?_)
    clear hK K hy
    try simp only [Act.put, tS1, tS2, tS3]
    refine tkA 17 (.agg hc) ?_ E4.out ?_
    · (intro w1 hS; exact exec_build 72 _ rfl #[(0, .int .i64 (s : Int)), (1, .int .i64 (l : Int)), (2, .int .u8 (p : Int)), (3, .agg S), (4, .agg D)] (by kernel_rfl) hc HBD.out)
    simp only [Act.put, tS1, tS2, tS3]
    refine tkO 19 (fun K hK => ?_)
    rw [if_pos (by rfl)]
    refine wp_blk_store 72 (.tmp 4) (.tmp 26) rfl hc rfl rfl G4.out Z0.out Z32.out AC.out ?_
    intro X hA hF hB
    have KX := Lib.hid (E4.out.trans (hB _ g4.out))
    have NX := Lib.hid (show Blk X w.heap.size 72 h0 from (hF _ d4.out).trans N4.out)
    have GX := Lib.hid hA
    clear hA hF hB
    refine hK.out _ _ KX.out (fun _ => ?_)
    clear hK K
    try simp only [Act.put]
    refine wpAnyH_done (by kernel_rfl) ?_ _
    go_wp2
    go_meet
    exact ⟨_, rfl, GX.out, NX.out, KX.out⟩
  case rest =>
    obtain ⟨g, rfl, hG, hN, hK⟩ := hcut
    have G := Lib.hid hG
    have NB := Lib.hid hN
    have K := Lib.hid hK
    have e0 := (hG.cell 0).trans HCG.out.1
    have e1 := (hG.cell 1).trans HCG.out.2.1
    have e2 := (hG.cell 2).trans HCG.out.2.2
    have c0 := c0w wc hK
    have RW := Lib.hid (HR.out.below hK)
    clear hG hN hK c0w c9w HR R1 R2 CS CD HL HMUL HS4 HBD B16 N K0 C0 C9 HCG
    by_cases h4 : x / 16 = 4
    case neg =>
      have hf : F = 3 := by rw [HF.out, if_neg h20, if_pos (.inl h4)]
      have g4 : ((x : Int) / 16 != 4) = true := by rw [bne_iff_ne]; omega
      clear h4
      have hh : HDV = h0 := by rw [HH.out, if_neg (by omega)]
      subst hf hh
      go_wp2_with (((with_reducible refine wpList_blk_store (op := ⟨none, .store 72 (.tmp 2) (.tmp 45), _, _, _, _⟩) ?sg2 72 (.tmp 2) (.tmp 45) ?so2 (w.heap.size) h0 ?sx2 ?sy2 NB.out rfl ZH.out h0_all ?_); (case sg2 => rfl); (case so2 => rfl); (case sx2 => rfl); (case sy2 => rfl)))
      intro W2 hA hF hB
      have HA := Lib.hid hA
      have HB := Lib.hid (K.out.trans (hB _ (Nat.le_refl _)))
      clear hA hF hB
      go_wp2
      have hrun := run_blk_load (P := Try.prog) 72 w.heap.size _ HA.out Try.underlying72 rfl ZH.out
      exact bodyPost_ret (results_cell_tmp 2 72 3 w.heap.size _ Try.results36 rfl hrun) rfl ⟨rfl, HB.out⟩
    have g4 : ((x : Int) / 16 != 4) = false := by rw [bne_eq_false_iff_eq]; omega
    by_cases hs20 : s < 20
    · have hf : F = 3 := by rw [HF.out, if_neg h20, if_pos (.inr (.inl hs20))]
      clear h4
      have hh : HDV = h0 := by rw [HH.out, if_neg (by omega)]
      subst hf hh
      go_wp2_with (((with_reducible refine wpList_blk_store (op := ⟨none, .store 72 (.tmp 2) (.tmp 45), _, _, _, _⟩) ?sg3 72 (.tmp 2) (.tmp 45) ?so3 (w.heap.size) h0 ?sx3 ?sy3 NB.out rfl ZH.out h0_all ?_); (case sg3 => rfl); (case so3 => rfl); (case sx3 => rfl); (case sy3 => rfl)))
      intro W2 hA hF hB
      have HA := Lib.hid hA
      have HB := Lib.hid (K.out.trans (hB _ (Nat.le_refl _)))
      clear hA hF hB
      go_wp2
      have hrun := run_blk_load (P := Try.prog) 72 w.heap.size _ HA.out Try.underlying72 rfl ZH.out
      exact bodyPost_ret (results_cell_tmp 2 72 3 w.heap.size _ Try.results36 rfl hrun) rfl ⟨rfl, HB.out⟩
    by_cases hls : l < s
    · have hf : F = 3 := by rw [HF.out, if_neg h20, if_pos (.inr (.inr hls))]
      clear h4
      have hh : HDV = h0 := by rw [HH.out, if_neg (by omega)]
      subst hf hh
      go_wp2_with (((with_reducible refine wpList_blk_store (op := ⟨none, .store 72 (.tmp 2) (.tmp 45), _, _, _, _⟩) ?sg4 72 (.tmp 2) (.tmp 45) ?so4 (w.heap.size) h0 ?sx4 ?sy4 NB.out rfl ZH.out h0_all ?_); (case sg4 => rfl); (case so4 => rfl); (case sx4 => rfl); (case sy4 => rfl)))
      intro W2 hA hF hB
      have HA := Lib.hid hA
      have HB := Lib.hid (K.out.trans (hB _ (Nat.le_refl _)))
      clear hA hF hB
      go_wp2
      have hrun := run_blk_load (P := Try.prog) 72 w.heap.size _ HA.out Try.underlying72 rfl ZH.out
      exact bodyPost_ret (results_cell_tmp 2 72 3 w.heap.size _ Try.results36 rfl hrun) rfl ⟨rfl, HB.out⟩
    have HF2 := Lib.hid (HF.out.trans ((if_neg h20).trans (if_neg (by omega))))
    clear HF
    by_cases hnl : n < l
    · have hf : F = 1 := by rw [HF2.out, if_pos hnl]
      clear h4
      by_cases hns : n < s
      · have _hx := hns
        have hh : HDV = h0 := by rw [HH.out, if_neg (by omega)]
        subst hf hh
        go_wp2_with (((with_reducible refine wpList_blk_store (op := ⟨none, .store 72 (.tmp 2) (.tmp 59), _, _, _, _⟩) ?sg5 72 (.tmp 2) (.tmp 59) ?so5 (w.heap.size) h0 ?sx5 ?sy5 NB.out rfl ZH.out h0_all ?_); (case sg5 => rfl); (case so5 => rfl); (case sx5 => rfl); (case sy5 => rfl)))
        intro W2 hA hF hB
        have HA := Lib.hid hA
        have HB := Lib.hid (K.out.trans (hB _ (Nat.le_refl _)))
        clear hA hF hB
        go_wp2
        have hrun := run_blk_load (P := Try.prog) 72 w.heap.size _ HA.out Try.underlying72 rfl ZH.out
        exact bodyPost_ret (results_cell_tmp 2 72 3 w.heap.size _ Try.results36 rfl hrun) rfl ⟨rfl, HB.out⟩
      · have _hx := hns
        have hh : HDV = h0 := by rw [HH.out, if_neg (by omega)]
        subst hf hh
        go_wp2_with (((with_reducible refine wpList_blk_store (op := ⟨none, .store 72 (.tmp 2) (.tmp 59), _, _, _, _⟩) ?sg6 72 (.tmp 2) (.tmp 59) ?so6 (w.heap.size) h0 ?sx6 ?sy6 NB.out rfl ZH.out h0_all ?_); (case sg6 => rfl); (case so6 => rfl); (case sx6 => rfl); (case sy6 => rfl)))
        intro W2 hA hF hB
        have HA := Lib.hid hA
        have HB := Lib.hid (K.out.trans (hB _ (Nat.le_refl _)))
        clear hA hF hB
        go_wp2
        have hrun := run_blk_load (P := Try.prog) 72 w.heap.size _ HA.out Try.underlying72 rfl ZH.out
        exact bodyPost_ret (results_cell_tmp 2 72 3 w.heap.size _ Try.results36 rfl hrun) rfl ⟨rfl, HB.out⟩
    have hns : ¬ n < s := by omega
    have HF := Lib.hid (HF2.out.trans (if_neg hnl))
    have HS := Lib.hid (HFr.out wc RW.out (by omega))
    clear HF2 h4 HFr
    go_wp2_with fail
    refine (CK.out _ HS.out).mono ?_; rintro e w1 ⟨rfl, rfl⟩
    clear CK HS
    by_cases hq : q = 0
    case neg =>
      have hf : F = 4 := by rw [HF.out, if_pos hq]
      have gq : ((q : Int) != 0) = true := by rw [bne_iff_ne]; omega
      clear hq
      have hh : HDV = h0 := by rw [HH.out, if_neg (by omega)]
      subst hf hh
      go_wp2_with (((with_reducible refine wpList_blk_store (op := ⟨none, .store 72 (.tmp 2) (.tmp 67), _, _, _, _⟩) ?sg7 72 (.tmp 2) (.tmp 67) ?so7 (w.heap.size) h0 ?sx7 ?sy7 NB.out rfl ZH.out h0_all ?_); (case sg7 => rfl); (case so7 => rfl); (case sx7 => rfl); (case sy7 => rfl)))
      intro W2 hA hF hB
      have HA := Lib.hid hA
      have HB := Lib.hid (K.out.trans (hB _ (Nat.le_refl _)))
      clear hA hF hB
      go_wp2
      have hrun := run_blk_load (P := Try.prog) 72 w.heap.size _ HA.out Try.underlying72 rfl ZH.out
      exact bodyPost_ret (results_cell_tmp 2 72 3 w.heap.size _ Try.results36 rfl hrun) rfl ⟨rfl, HB.out⟩
    have HF2 := Lib.hid (HF.out.trans (if_neg (by omega)))
    subst hq
    clear HF
    go_wp2_with fail
    refine (B6.out _ RW.out).mono ?_; rintro e W1 ⟨rfl, hb1⟩
    have G1 := Lib.hid (G.out.below hb1 G.out.lt)
    have N1 := Lib.hid (NB.out.below hb1 NB.out.lt)
    have K1 := Lib.hid (K.out.trans (hb1.mono K.out.size))
    have e2' := (hb1.cell (p := ⟨g, 2, none⟩) G.out.lt).trans e2
    clear hb1 G NB K e2 e0 e1 c0 RW B6
    have G := G1
    have NB := N1
    have K := K1
    have N := N1
    clear G1 N1 K1
    have hl14 := HG.out
    by_cases hg0 : fg % 16384 = 0
    case neg =>
      have hf : F = 5 := by rw [HF2.out, if_pos hg0]
      have gq : (((fg % 16384 : Nat) : Int) != 0) = true := by rw [bne_iff_ne]; omega
      clear hg0
      have hh : HDV = h0 := by rw [HH.out, if_neg (by omega)]
      subst hf hh
      go_wp2_with (((with_reducible refine wpList_blk_store (op := ⟨none, .store 72 (.tmp 2) (.tmp 73), _, _, _, _⟩) ?sg8 72 (.tmp 2) (.tmp 73) ?so8 (w.heap.size) h0 ?sx8 ?sy8 NB.out rfl ZH.out h0_all ?_); (case sg8 => rfl); (case so8 => rfl); (case sx8 => rfl); (case sy8 => rfl)))
      intro W2 hA hF hB
      have HA := Lib.hid hA
      have HB := Lib.hid (K.out.trans (hB _ (Nat.le_refl _)))
      clear hA hF hB
      go_wp2
      have hrun := run_blk_load (P := Try.prog) 72 w.heap.size _ HA.out Try.underlying72 rfl ZH.out
      exact bodyPost_ret (results_cell_tmp 2 72 3 w.heap.size _ Try.results36 rfl hrun) rfl ⟨rfl, HB.out⟩
    have HF := Lib.hid (HF2.out.trans (if_neg (by omega)))
    have gq : (((fg % 16384 : Nat) : Int) != 0) = false := by rw [bne_eq_false_iff_eq]; omega
    clear HF2 hg0
    by_cases hp6 : p = 6 ∨ p = 17
    · have hf : F = 0 := by rw [HF.out, if_neg (by omega)]
      have hh : HDV = hc := by rw [HH.out, if_pos hf]
      subst hf hh
      have d6 : p = 6 → ((p : Int) != 6) = false := fun h => by rw [bne_eq_false_iff_eq]; omega
      have d17 : ¬ p = 6 → ((p : Int) != 6) = true ∧ ((p : Int) != 17) = false := fun h => ⟨by rw [bne_iff_ne]; omega, by rw [bne_eq_false_iff_eq]; omega⟩
      by_cases hp : p = 6
      · have d := d6 hp
        clear d6 d17 hp hp6
        go_wp2_with (first | ((with_reducible refine wpList_blk_load (op := ⟨some 84, .load 72 (.tmp 4), _, _, _, _⟩) ?lg10 72 (.tmp 4) ?lo10 (g) ?lx10 _ G.out Try.underlying72 ?ld10 Z32.out ?_); (case lg10 => rfl); (case lo10 => rfl); (case lx10 => rfl); (case ld10 => rfl)) | ((with_reducible refine wpList_blk_store (op := ⟨none, .store 72 (.tmp 2) (.tmp 84), _, _, _, _⟩) ?sg12 72 (.tmp 2) (.tmp 84) ?so12 (w.heap.size) HDV ?sx12 ?sy12 N.out Z0.out Z32.out AC.out ?_); (case sg12 => rfl); (case so12 => rfl); (case sx12 => rfl); (case sy12 => rfl)))
        intro W2 hA hF hB
        have HA := Lib.hid hA
        have HB := Lib.hid (K.out.trans (hB _ (Nat.le_refl _)))
        clear hA hF hB
        go_wp2
        have hrun := run_blk_load (P := Try.prog) 72 w.heap.size _ HA.out Try.underlying72 rfl Z32.out
        exact bodyPost_ret (results_cell_tmp 2 72 3 w.heap.size _ Try.results36 rfl hrun) rfl ⟨rfl, HB.out⟩
      · obtain ⟨d, d'⟩ := d17 hp
        clear d6 d17 hp hp6
        go_wp2_with (first | ((with_reducible refine wpList_blk_load (op := ⟨some 84, .load 72 (.tmp 4), _, _, _, _⟩) ?lg11 72 (.tmp 4) ?lo11 (g) ?lx11 _ G.out Try.underlying72 ?ld11 Z32.out ?_); (case lg11 => rfl); (case lo11 => rfl); (case lx11 => rfl); (case ld11 => rfl)) | ((with_reducible refine wpList_blk_store (op := ⟨none, .store 72 (.tmp 2) (.tmp 84), _, _, _, _⟩) ?sg13 72 (.tmp 2) (.tmp 84) ?so13 (w.heap.size) HDV ?sx13 ?sy13 N.out Z0.out Z32.out AC.out ?_); (case sg13 => rfl); (case so13 => rfl); (case sx13 => rfl); (case sy13 => rfl)))
        intro W2 hA hF hB
        have HA := Lib.hid hA
        have HB := Lib.hid (K.out.trans (hB _ (Nat.le_refl _)))
        clear hA hF hB
        go_wp2
        have hrun := run_blk_load (P := Try.prog) 72 w.heap.size _ HA.out Try.underlying72 rfl Z32.out
        exact bodyPost_ret (results_cell_tmp 2 72 3 w.heap.size _ Try.results36 rfl hrun) rfl ⟨rfl, HB.out⟩
    · have hf : F = 6 := by rw [HF.out, if_pos (by omega)]
      have d : ((p : Int) != 6) = true := by rw [bne_iff_ne]; omega
      have d' : ((p : Int) != 17) = true := by rw [bne_iff_ne]; omega
      clear hp6
      have hh : HDV = h0 := by rw [HH.out, if_neg (by omega)]
      subst hf hh
      go_wp2_with (((with_reducible refine wpList_blk_store (op := ⟨none, .store 72 (.tmp 2) (.tmp 83), _, _, _, _⟩) ?sg9 72 (.tmp 2) (.tmp 83) ?so9 (w.heap.size) h0 ?sx9 ?sy9 NB.out rfl ZH.out h0_all ?_); (case sg9 => rfl); (case so9 => rfl); (case sx9 => rfl); (case sy9 => rfl)))
      intro W2 hA hF hB
      have HA := Lib.hid hA
      have HB := Lib.hid (K.out.trans (hB _ (Nat.le_refl _)))
      clear hA hF hB
      go_wp2
      have hrun := run_blk_load (P := Try.prog) 72 w.heap.size _ HA.out Try.underlying72 rfl ZH.out
      exact bodyPost_ret (results_cell_tmp 2 72 3 w.heap.size _ Try.results36 rfl hrun) rfl ⟨rfl, HB.out⟩
theorem rfour_any (v : Value) (zs : List Nat) (w : World) (hr : Rd w v (nus .u8 zs)) (hb : ∀ c ∈ zs, c < 256) (hz : zs.length ≤ 3000) :
    Calls Try.prog 36 #[v] w fun e w' => e = .returned (.tuple #[.agg (hd zs), .int .i64 (ff zs : Nat)]) ∧ Below w.heap.size w w' := by
  by_cases h : zs.length < 20
  · have hf : ff zs = 1 := by unfold ff; rw [if_pos h]
    have hh : hd zs = h0 := by unfold hd; rw [if_neg (by omega)]
    rw [hf, hh]
    exact rfour_short v zs w hr h
  · exact rfour_long v zs w hr hb hz h
end Go.Proofs.Ytnpibdjfafpegaa
