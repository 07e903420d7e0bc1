/- Texts that the walks of this seat lean on, put together. -/
import Derived.Test.YtnpibdjfafpegaaTk
import Derived.Test.YtnpibdjfafpegaaM27
namespace Go.Proofs.Ytnpibdjfafpegaa
open Go.RowKit
theorem tmp_at {a : Act} {s : Nat} {v : Value} (h : a.eval (.tmp s) = v) : a.tmps[s]?.getD undef = v := by
  rw [← h]; simp [Act.eval, Array.getD_eq_getD_getElem?]
theorem st_u16 (Q : Exit → Act → World → Prop) (d s : Nat) (t : TypeId) (pos : String) (af : Array Edge) (K : Act → World → Prop) (a : Act) (w : World) (b j x : Nat) (h : a.eval (.tmp s) = .pointer (some ⟨b, j, none⟩)) (h2 : a.eval (.tmp d) = .int .u16 (x : Int))
    (ty : TypeId) (cs : Array Value) (hc : Blk w b ty cs) (hj : j < cs.size)
    (hK : ∀ w', Blk w' b ty (cs.setIfInBounds j (.int .u16 (x : Int))) → (∀ k, k ≠ b → w'.heap[k]? = w.heap[k]?) → (∀ B, B ≤ b → Below B w w') → K a w') :
    Oper.wp Try.prog { dst := none, op := Op.store 28 (.tmp s) (.tmp d), type := t, pos := pos, after := af, guard := none } a w K Q := by
  have hce := hc.cell j
  rw [Array.getElem?_eq_getElem hj] at hce
  have hf := hc.frozen j
  have h' := tmp_at h
  have h2' := tmp_at h2
  have hk := hK _ (hc.set_ j _) (fun k hk => Below.heap_setCell w ⟨b, j, none⟩ _ k hk) (fun B hB => (Below.refl B w).setCell (p := ⟨b, j, none⟩) hB _)
  generalize cs[j] = vv at hce
  clear h h2 hc hK hj
  go_simp
  exact hk
theorem st_u8' (Q : Exit → Act → World → Prop) (d s : Nat) (t : TypeId) (pos : String) (af : Array Edge) (K : Act → World → Prop) (a : Act) (w : World) (b j x : Nat) (h : a.eval (.tmp s) = .pointer (some ⟨b, j, none⟩)) (h2 : a.eval (.tmp d) = .int .u8 (x : Int))
    (ty : TypeId) (cs : Array Value) (hc : Blk w b ty cs) (hj : j < cs.size)
    (hK : ∀ w', Blk w' b ty (cs.setIfInBounds j (.int .u8 (x : Int))) → (∀ k, k ≠ b → w'.heap[k]? = w.heap[k]?) → (∀ B, B ≤ b → Below B w w') → K a w') :
    Oper.wp Try.prog { dst := none, op := Op.store 5 (.tmp s) (.tmp d), type := t, pos := pos, after := af, guard := none } a w K Q := by
  have hce := hc.cell j
  rw [Array.getElem?_eq_getElem hj] at hce
  have hf := hc.frozen j
  have h' := tmp_at h
  have h2' := tmp_at h2
  have hk := hK _ (hc.set_ j _) (fun k hk => Below.heap_setCell w ⟨b, j, none⟩ _ k hk) (fun B hB => (Below.refl B w).setCell (p := ⟨b, j, none⟩) hB _)
  generalize cs[j] = vv at hce
  clear h h2 hc hK hj
  go_simp
  exact hk
theorem put3 (six : Bool) (n s e f p x y xf : Nat) (S D : Array Value) (hS : S.size = 17) (hD : D.size = 17) (a b : Nat) :
    (((vcells six n s e (kcells p S D a b) f).setIfInBounds 39 (.int .u16 (x : Int))).setIfInBounds 40 (.int .u16 (y : Int))).setIfInBounds 41 (.int .u8 (xf : Int)) = vcells six n s e (kcells p S D x y) xf := by
  obtain ⟨x0, x1, x2, x3, x4, x5, x6, x7, x8, x9, x10, x11, x12, x13, x14, x15, x16, rfl⟩ := arr17 S hS
  obtain ⟨y0, y1, y2, y3, y4, y5, y6, y7, y8, y9, y10, y11, y12, y13, y14, y15, y16, rfl⟩ := arr17 D hD
  rfl
theorem vget (six : Bool) (n s e f p a b : Nat) (S D : Array Value) : (vcells six n s e (kcells p S D a b) f)[0]? = some (.bool six) ∧ (vcells six n s e (kcells p S D a b) f)[1]? = some (.int .i64 (n : Int)) ∧ (vcells six n s e (kcells p S D a b) f)[2]? = some (.int .i64 (s : Int)) ∧
    (vcells six n s e (kcells p S D a b) f)[3]? = some (.int .i64 (e : Int)) ∧ (vcells six n s e (kcells p S D a b) f)[4]? = some (.int .u8 (p : Int)) := ⟨rfl, rfl, rfl, rfl, rfl⟩
set_option maxRecDepth 100000 in
set_option maxHeartbeats 8000000 in
theorem segment_any (v : Value) (zs : List Nat) (at0 : Nat) (six : Bool) (w : World) (hr : Rd w v (nus .u8 zs)) (hb : ∀ c ∈ zs, c < 256) (h1 : 0 < at0) (h2 : at0 ≤ zs.length) (hok : fhr six (zs.drop at0) = 0) :
    Calls Try.prog 40 #[v, .agg (pv six at0 (zs.drop at0))] w fun e w' => e = .returned (.tuple #[.agg (sv six at0 zs), .int .i64 (fs (fP six (zs.drop at0)) (sgT six at0 zs) : Nat)]) ∧ Below w.heap.size w w' := by
  have hsv := (show sv six at0 zs = if fs (fP six (zs.drop at0)) (sgT six at0 zs) = 0 then vcells six at0 (at0 + fS six (zs.drop at0)) (at0 + fL six (zs.drop at0)) (kcells (fP six (zs.drop at0)) (fA six (zs.drop at0)) (fB six (zs.drop at0)) (u2 (sgT six at0 zs) 0) (u2 (sgT six at0 zs) 2)) (fl (fP six (zs.drop at0)) (sgT six at0 zs)) else v0 from rfl)
  have hpt : sgT six at0 zs = (zs.drop (at0 + fS six (zs.drop at0))).take (fL six (zs.drop at0) - fS six (zs.drop at0)) := rfl
  have hsz := sv_size six at0 zs hok
  have hpsz := pv_size six at0 (zs.drop at0)
  have hpall := pv_all six at0 (zs.drop at0)
  have hpv : pv six at0 (zs.drop at0) = vcells six at0 (at0 + fS six (zs.drop at0)) (at0 + fL six (zs.drop at0)) (kcells (fP six (zs.drop at0)) (fA six (zs.drop at0)) (fB six (zs.drop at0)) 0 0) 0 := by unfold pv; rw [if_pos hok]
  have HDD := fhd_yes six _ hok
  have hsS := HDD.sA
  have hsD := HDD.sB
  have h20 := HDD.low
  have hmid := HDD.mid
  have hhigh := HDD.high
  have haA := fA_all six (zs.drop at0)
  have haB := fB_all six (zs.drop at0)
  rw [List.length_drop] at hhigh
  clear HDD hok
  generalize zs.drop at0 = T at *
  generalize sgT six at0 zs = PT at *
  have hbP : ∀ c ∈ PT, c < 256 := by rw [hpt]; exact fun c hc => hb c (List.mem_of_mem_drop (List.mem_of_mem_take hc))
  obtain ⟨a, cap, rfl, hlc, hlm⟩ := rd_shape hr
  obtain ⟨b, off, rfl, -⟩ := hr.cells (by omega)
  generalize fS six T = s at *
  generalize fL six T = l at *
  generalize fP six T = p at *
  generalize fA six T = S at *
  generalize fB six T = D at *
  obtain ⟨sg, hsg⟩ : ∃ x, x = at0 + s := ⟨_, rfl⟩
  obtain ⟨en, hen⟩ : ∃ x, x = at0 + l := ⟨_, rfl⟩
  rw [← hsg, show l - s = en - sg by omega] at hpt
  have hRP := subP hr sg (en - sg) (by omega)
  rw [← hpt] at hRP
  rw [← hsg, ← hen] at hsv hpv
  obtain ⟨P2, hP3⟩ : ∃ P, P = (if cap = sg then some (⟨b, off, none⟩ : Addr) else some ⟨b, off + sg, none⟩) := ⟨_, rfl⟩
  rw [← hP3] at hRP
  have RP := Lib.hid hRP
  have HP2 := Lib.hid hP3
  have hbk : ∀ (z : Value) (W : World), Rd W z (nus .u8 PT) → Calls Try.prog 53 #[.int .u8 (p : Int), z] W fun e w' => e = .returned (.tuple #[.agg (hs7 p PT), .int .i64 (fs p PT : Nat)]) ∧ Below W.heap.size W w' := fun z W h => read_any p z PT W h hbP
  have CR := Lib.hid hbk
  have HS7 := Lib.hid (heads p PT hbP)
  have HR7 := Lib.hid (show hs7 p PT = if fs p PT = 0 then #[.int .u16 (u2 PT 0 : Nat), .int .u16 (u2 PT 2 : Nat), .int .u8 (fl p PT : Nat)] else #[.int .u16 0, .int .u16 0, .int .u8 0] from rfl)
  have hu0 := u2_lt PT 0 hbP
  have hu2 := u2_lt PT 2 hbP
  have YR : Hid ((hs7 p PT).size = Array.size (#[Value.int .u16 0, .int .u16 0, .int .u8 0] : Array Value)) := hs7_size p PT
  have ZR := Lib.hid (i30.trans (congrArg some (hs7_size p PT).symm))
  have AR := Lib.hid (hs7_all p PT)
  have Y0 : Hid (v0.size = Array.size (ZcV : Array Value)) := v0_size
  have Z0 := Lib.hid (i72.trans (congrArg some v0_size.symm))
  have A0 := Lib.hid v0_all
  have HSV := Lib.hid hsv
  have P3 := Lib.hid (fun x y xf => put3 six at0 sg en 0 p x y xf S D hsS hsD 0 0)
  have YVW : Hid ((sv six at0 zs).size = Array.size (ZcV : Array Value)) := hsz
  have QVW := Lib.hid (i72.trans (congrArg some hsz.symm))
  have AVW := Lib.hid (sv_all six at0 zs)
  obtain ⟨-, -, q2, q3, q4⟩ := vget six at0 sg en 0 p 0 0 S D
  rw [← hpv] at q2 q3 q4 P3
  have H2 := Lib.hid q2
  have H3 := Lib.hid q3
  have H4 := Lib.hid q4
  generalize pv six at0 T = PV at *
  have YPV : Hid (PV.size = Array.size (ZcV : Array Value)) := hpsz
  have ZPV := Lib.hid (i72.trans (congrArg some hpsz.symm))
  have NPV := Lib.hid hpsz
  generalize sv six at0 zs = VW at *
  have K := Lib.hid (Below.refl w.heap.size w)
  have hse : sg ≤ en := by omega
  have hen2 : en ≤ zs.length := by omega
  generalize zs.length = n at *
  unfold maxLen at hlm
  clear hr hb hsv hpt hsz hpsz hpall hpv hsS hsD haA haB q2 q3 q4 hRP hP3 hbk hbP hsg hen h20 hmid hhigh
  generalize hs7 p PT = RS at *
  generalize fs p PT = r2 at *
  go_enter Try.func40, Try.ntmps40
  have hal := (Below.refl w.heap.size w).alloc (Nat.le_refl _) (.cells PV 50)
  replace K := Lib.hid (K.out.trans (hal.mono K.out.size))
  have HX := Lib.hid (Blk.new w 50 PV)
  clear hal
  have hal := (Below.refl (w.alloc (.cells PV 50)).heap.size (w.alloc (.cells PV 50))).alloc (Nat.le_refl _) (.cells ZcV 50)
  replace K := Lib.hid (K.out.trans (hal.mono K.out.size))
  replace HX := Lib.hid (HX.out.below hal HX.out.lt)
  have HVq := Blk.new (w.alloc (.cells PV 50)) 50 ZcV
  simp only [World.size_alloc] at HVq
  have HV := Lib.hid HVq
  clear HVq
  clear hal
  go_upto_region 1 with fail
  have hzV1 : Hid (((w.alloc (.cells PV 50)).alloc (.cells ZcV 50)).heap.size = w.heap.size + 1 + 1) := by show _ = _; simp only [World.size_alloc]
  generalize ((w.alloc (.cells PV 50)).alloc (.cells ZcV 50)) = V1 at *
  have hlow : V1.heap.size ≤ V1.heap.size := Nat.le_refl _
  have qK := K.out.size
  have qX := HX.out.lt
  have qV := HV.out.lt
  go_cut [6, 7] (fun v r wx => ∃ g, v = .pointer (some ⟨g, 0, none⟩) ∧ r = .int .i64 (r2 : Int) ∧ Blk wx g 99 RS ∧ Blk wx (w.heap.size) 50 PV ∧ Blk wx (w.heap.size + 1) 50 ZcV ∧ V1.heap.size ≤ g ∧ Below w.heap.size w wx)
  case first =>
    refine wp_region_held (S := (fun w' : World => Below (V1.heap.size) V1 w')) (by kernel_rfl) ?_
    change wpAnyH _ _ _ _ _ _ _ _ V1.drew
    have hy : Below V1.heap.size V1 V1.drew := (Below.refl _ _).drew
    have hE0 : Below (V1.heap.size) V1 V1.drew := (Below.refl _ _).drew
    clear hy
    generalize V1.drew = Y1x0 at hE0  ⊢
    have E0 := Lib.hid hE0
    clear hE0
    refine tkA 0 (?_) ?_ E0.out ?_
    rotate_left
    · (intro w1 hS; go_simp; try with_reducible rfl)
    simp only [Act.put, tS1, tS2, tS3]
    refine tkA 1 (?_) ?_ E0.out ?_
    rotate_left
    · (intro w1 hS; go_simp; try with_reducible rfl)
    simp only [Act.put, tS1, tS2, tS3]
    refine tkA 2 (?_) ?_ E0.out ?_
    rotate_left
    · (intro w1 hS; have hW := hS; have q := ((HX.out.below hW HX.out.lt).cell 4).trans H4.out; clear hW hS; go_simp; try with_reducible rfl)
    simp only [Act.put, tS1, tS2, tS3]
    refine tkA 3 (?_) ?_ E0.out ?_
    rotate_left
    · (intro w1 hS; go_simp; try with_reducible rfl)
    simp only [Act.put, tS1, tS2, tS3]
    refine tkA 4 (?_) ?_ E0.out ?_
    rotate_left
    · (intro w1 hS; go_simp; try with_reducible rfl)
    simp only [Act.put, tS1, tS2, tS3]
    refine tkA 5 (?_) ?_ E0.out ?_
    rotate_left
    · (intro w1 hS; have hW := hS; have q := ((HX.out.below hW HX.out.lt).cell 2).trans H2.out; clear hW hS; go_simp; try with_reducible rfl)
    simp only [Act.put, tS1, tS2, tS3]
    refine tkA 6 (?_) ?_ E0.out ?_
    rotate_left
    · (intro w1 hS; go_simp; try with_reducible rfl)
    simp only [Act.put, tS1, tS2, tS3]
    refine tkA 7 (?_) ?_ E0.out ?_
    rotate_left
    · (intro w1 hS; have hW := hS; have q := ((HX.out.below hW HX.out.lt).cell 3).trans H3.out; clear hW hS; go_simp; try with_reducible rfl)
    simp only [Act.put, tS1, tS2, tS3]
    refine tkA 8 (?_) ?_ E0.out ?_
    rotate_left
    · (intro w1 hS; have hW := hS; have q : (sg : Int) ≤ (en : Int) := (by omega); have q3 : (en : Int) ≤ (cap : Int) := (by omega); have q2 := HP2.out.symm; clear hW hS; go_simp; try with_reducible rfl)
    simp only [Act.put, tS1, tS2, tS3]
    clear HP2
    refine wpAnyH_ready (rs := [9, 13]) (by kernel_rfl) (by simp) ?_
    refine AllReadyH.cons (o := { dst := some 18, op := Op.call { callee := Callee.value (Operand.func 53), args := #[Operand.tmp 11, Operand.tmp 17], argTypes := #[5, 22] }, type := 100, pos := "frame.go:69", after := #[{ on := 2, ground := Ground.data }, { on := 8, ground := Ground.data }], guard := none }) rfl (fun KK hK => ?_) ?_
    · go_simp
      refine (CR.out _ Y1x0 ((RP.out.below (K.out.trans (E0.out.mono qK))))).mono ?_
      rintro e Y1x1 ⟨rfl, hy⟩
      have E1 := Lib.hid (E0.out.trans (hy.mono (Nat.le_trans hlow E0.out.size)))
      have C1 := Lib.hid E1.out
      clear hy E0
      refine hK.out _ _ C1.out (fun _ => ?_)
      clear hK KK
      clear C1
      try simp only [Act.put, tS1, tS2, tS3]
      refine tkA 10 (?_) ?_ E1.out ?_
      rotate_left
      · (intro w1 hS; go_simp; try with_reducible rfl)
      simp only [Act.put, tS1, tS2, tS3]
      refine tkA 11 (?_) ?_ E1.out ?_
      rotate_left
      · (intro w1 hS; go_simp; try with_reducible rfl)
      simp only [Act.put, tS1, tS2, tS3]
      refine tkA 12 (?_) ?_ E1.out ?_
      rotate_left
      · (intro w1 hS; go_simp; try with_reducible rfl)
      simp only [Act.put, tS1, tS2, tS3]
      refine tkO 13 (fun KK hK => ?_)
      go_simp
      have NR := Blk.new Y1x1 99 #[Value.int .u16 0, .int .u16 0, .int .u8 0]
      have hy := (Below.refl Y1x1.heap.size Y1x1).alloc (Nat.le_refl _) (.cells #[Value.int .u16 0, .int .u16 0, .int .u8 0] 99)
      have gNR := Nat.le_trans (Nat.le_of_eq rfl) E1.out.size
      generalize Y1x1.alloc (.cells #[Value.int .u16 0, .int .u16 0, .int .u8 0] 99) = Y1x2 at NR hy ⊢
      replace NR := Lib.hid NR
      have E2 := Lib.hid (E1.out.trans (hy.mono (Nat.le_trans hlow E1.out.size)))
      have C2 := Lib.hid E2.out
      clear hy E1
      refine hK.out _ _ C2.out (fun _ => ?_)
      clear hK KK
      clear C2
      try simp only [Act.put, tS1, tS2, tS3]
      refine tkO 14 (fun KK hK => ?_)
      rw [if_pos (by rfl)]
      refine wp_blk_store 99 (.tmp 6) (.tmp 19) rfl RS rfl rfl NR.out YR.out ZR.out AR.out ?_
      intro Y1x3 hA hF hB
      have E3 := Lib.hid (E2.out.trans (hB _ gNR))
      replace NR := Lib.hid hA
      clear hA hF hB E2
      refine hK.out _ _ E3.out (fun _ => ?_)
      clear hK KK
      try simp only [Act.put]
      refine tkA 15 (?_) ?_ E3.out ?_
      rotate_left
      · (intro w1 hS; go_simp; try with_reducible rfl)
      simp only [Act.put, tS1, tS2, tS3]
      refine wpAnyH_done (by kernel_rfl) ?_ _
      go_wp2
      go_meet
      exact ⟨_, rfl, rfl, NR.out, HX.out.below E3.out qX, HV.out.below E3.out qV, gNR, K.out.trans (E3.out.mono qK)⟩
    refine AllReadyH.cons (o := { dst := some 6, op := Op.alloc 99, type := 0, pos := "frame.go:69", after := #[], guard := none }) rfl (fun KK hK => ?_) AllReadyH.nil
    go_simp
    have NR := Blk.new Y1x0 99 #[Value.int .u16 0, .int .u16 0, .int .u8 0]
    have hy := (Below.refl Y1x0.heap.size Y1x0).alloc (Nat.le_refl _) (.cells #[Value.int .u16 0, .int .u16 0, .int .u8 0] 99)
    have gNR := Nat.le_trans (Nat.le_of_eq rfl) E0.out.size
    generalize Y1x0.alloc (.cells #[Value.int .u16 0, .int .u16 0, .int .u8 0] 99) = Y1x1 at NR hy ⊢
    replace NR := Lib.hid NR
    have E1 := Lib.hid (E0.out.trans (hy.mono (Nat.le_trans hlow E0.out.size)))
    have C1 := Lib.hid E1.out
    clear hy E0
    refine hK.out _ _ C1.out (fun _ => ?_)
    clear hK KK
    clear C1
    try simp only [Act.put, tS1, tS2, tS3]
    refine tkO 9 (fun KK hK => ?_)
    go_simp
    refine (CR.out _ Y1x1 ((RP.out.below (K.out.trans (E1.out.mono qK))))).mono ?_
    rintro e Y1x2 ⟨rfl, hy⟩
    replace NR := Lib.hid (NR.out.below hy NR.out.lt)
    have E2 := Lib.hid (E1.out.trans (hy.mono (Nat.le_trans hlow E1.out.size)))
    have C2 := Lib.hid E2.out
    clear hy E1
    refine hK.out _ _ C2.out (fun _ => ?_)
    clear hK KK
    clear C2
    try simp only [Act.put, tS1, tS2, tS3]
    refine tkA 10 (?_) ?_ E2.out ?_
    rotate_left
    · (intro w1 hS; go_simp; try with_reducible rfl)
    simp only [Act.put, tS1, tS2, tS3]
    refine tkA 11 (?_) ?_ E2.out ?_
    rotate_left
    · (intro w1 hS; go_simp; try with_reducible rfl)
    simp only [Act.put, tS1, tS2, tS3]
    refine tkA 12 (?_) ?_ E2.out ?_
    rotate_left
    · (intro w1 hS; go_simp; try with_reducible rfl)
    simp only [Act.put, tS1, tS2, tS3]
    refine tkO 14 (fun KK hK => ?_)
    rw [if_pos (by rfl)]
    refine wp_blk_store 99 (.tmp 6) (.tmp 19) rfl RS rfl rfl NR.out YR.out ZR.out AR.out ?_
    intro Y1x3 hA hF hB
    have E3 := Lib.hid (E2.out.trans (hB _ gNR))
    replace NR := Lib.hid hA
    clear hA hF hB E2
    refine hK.out _ _ E3.out (fun _ => ?_)
    clear hK KK
    try simp only [Act.put]
    refine tkA 15 (?_) ?_ E3.out ?_
    rotate_left
    · (intro w1 hS; go_simp; try with_reducible rfl)
    simp only [Act.put, tS1, tS2, tS3]
    refine wpAnyH_done (by kernel_rfl) ?_ _
    go_wp2
    go_meet
    exact ⟨_, rfl, rfl, NR.out, HX.out.below E3.out qX, HV.out.below E3.out qV, gNR, K.out.trans (E3.out.mono qK)⟩
  case rest =>
    obtain ⟨g, rfl, rfl, hG, hX, hV, hgl, hK⟩ := hcut
    clear K HX HV hlow
    have G := Lib.hid hG
    have K := Lib.hid hK
    have HX := Lib.hid hX
    have HV := Lib.hid hV
    clear hG hX hV hK CR RP
    have qz := hzV1.out
    by_cases hr2 : r2 = 0
    case neg =>
      have hV0 : v0 = VW := by rw [HSV.out, if_neg hr2]
      subst hV0
      have g0 : ((r2 : Int) != 0) = true := by simp; omega
      clear hr2
      go_wp2_with (((with_reducible refine wpList_blk_store (op := ⟨none, .store 50 (.tmp 4) (.tmp 23), _, _, _, _⟩) ?sg1 50 (.tmp 4) (.tmp 23) ?so1 (w.heap.size + 1) v0 ?sx1 ?sy1 HV.out Y0.out Z0.out A0.out ?_); (case sg1 => rfl); (case so1 => rfl); (case sx1 => rfl); (case sy1 => rfl)))
      intro V91 hA hF hB
      replace K := Lib.hid (K.out.trans (hB _ (by omega)))
      replace HX := Lib.hid (show Blk _ _ _ _ from (hF _ (by omega)).trans HX.out)
      replace G := Lib.hid (show Blk _ _ _ _ from (hF _ (by omega)).trans G.out)
      replace HV := Lib.hid hA
      clear hA hF hB
      go_wp2
      have hrun := run_blk_load (P := Try.prog) 50 (w.heap.size + 1) _ HV.out Try.underlying50 rfl Z0.out
      exact bodyPost_ret (results_cell_tmp 4 50 5 (w.heap.size + 1) _ Try.results40 rfl hrun) rfl ⟨rfl, K.out⟩
    have hV0 := HSV.out
    rw [if_pos hr2] at hV0
    have hRS := HR7.out
    rw [if_pos hr2] at hRS
    clear HSV HR7 HS7
    subst hr2
    generalize u2 PT 0 = x0 at *
    generalize u2 PT 2 = x2 at *
    generalize fl p PT = xf at *
    have G0 := Lib.hid (show RS[0]? = some (.int .u16 (x0 : Int)) by rw [hRS]; rfl)
    have G1 := Lib.hid (show RS[1]? = some (.int .u16 (x2 : Int)) by rw [hRS]; rfl)
    have G2 := Lib.hid (show RS[2]? = some (.int .u8 (xf : Int)) by rw [hRS]; rfl)
    have PP := Lib.hid ((P3.out x0 x2 xf).trans hV0.symm)
    clear P3 hV0 hRS
    go_wp2_with fail
    refine wp_region_held (S := (fun w' : World => Blk w' g 99 RS)) (by kernel_rfl) ?_
    change wpAnyH _ _ _ _ _ _ _ _ wc.drew
    have hy : Below wc.heap.size wc wc.drew := (Below.refl _ _).drew
    replace K := Lib.hid (K.out.trans (hy.mono K.out.size))
    replace HX := Lib.hid (HX.out.below hy HX.out.lt)
    replace HV := Lib.hid (HV.out.below hy HV.out.lt)
    replace G := Lib.hid (G.out.below hy G.out.lt)
    clear hy
    generalize wc.drew = Y0 at *
    refine tkA 0 (?_) ?_ G.out ?_
    rotate_left
    · (intro w1 hS; clear hS; go_simp; try with_reducible rfl)
    simp only [Act.put, tS1, tS2, tS3]
    refine tkA 1 (?_) ?_ G.out ?_
    rotate_left
    · (intro w1 hS; have q := (hS.cell 0).trans G0.out; clear hS; go_simp; try with_reducible rfl)
    simp only [Act.put, tS1, tS2, tS3]
    refine tkA 2 (?_) ?_ G.out ?_
    rotate_left
    · (intro w1 hS; clear hS; go_simp; try with_reducible rfl)
    simp only [Act.put, tS1, tS2, tS3]
    refine tkA 3 (?_) ?_ G.out ?_
    rotate_left
    · (intro w1 hS; have q := (hS.cell 1).trans G1.out; clear hS; go_simp; try with_reducible rfl)
    simp only [Act.put, tS1, tS2, tS3]
    refine tkA 4 (?_) ?_ G.out ?_
    rotate_left
    · (intro w1 hS; clear hS; go_simp; try with_reducible rfl)
    simp only [Act.put, tS1, tS2, tS3]
    refine tkA 5 (?_) ?_ G.out ?_
    rotate_left
    · (intro w1 hS; have q := (hS.cell 2).trans G2.out; clear hS; go_simp; try with_reducible rfl)
    simp only [Act.put, tS1, tS2, tS3]
    refine tkA 6 (?_) ?_ G.out ?_
    rotate_left
    · (intro w1 hS; clear hS; go_simp; try with_reducible rfl)
    simp only [Act.put, tS1, tS2, tS3]
    refine tkA 7 (?_) ?_ G.out ?_
    rotate_left
    · (intro w1 hS; clear hS; go_simp; try with_reducible rfl)
    simp only [Act.put, tS1, tS2, tS3]
    refine tkO 8 (fun KK hK => ?_)
    rw [if_pos (by rfl)]
    refine st_u16 _ _ _ _ _ _ KK _ _ (w.heap.size) 39 x0 rfl rfl 50 _ HX.out (by have q := NPV.out; (try simp only [Array.size_setIfInBounds]); omega) ?_
    intro Y1 hA hF hB
    replace G := Lib.hid (show Blk Y1 g 99 RS from (hF g (by omega)).trans G.out)
    replace HV := Lib.hid (show Blk Y1 _ _ _ from (hF _ (by omega)).trans HV.out)
    replace K := Lib.hid (K.out.trans (hB _ (Nat.le_refl _)))
    replace HX := Lib.hid hA
    clear hA hF hB
    refine hK.out _ _ G.out (fun _ => ?_)
    clear hK KK
    refine tkA 9 (?_) ?_ G.out ?_
    rotate_left
    · (intro w1 hS; clear hS; go_simp; try with_reducible rfl)
    simp only [Act.put, tS1, tS2, tS3]
    refine tkA 10 (?_) ?_ G.out ?_
    rotate_left
    · (intro w1 hS; clear hS; go_simp; try with_reducible rfl)
    simp only [Act.put, tS1, tS2, tS3]
    refine tkO 11 (fun KK hK => ?_)
    rw [if_pos (by rfl)]
    refine st_u16 _ _ _ _ _ _ KK _ _ (w.heap.size) 40 x2 rfl rfl 50 _ HX.out (by have q := NPV.out; (try simp only [Array.size_setIfInBounds]); omega) ?_
    intro Y2 hA hF hB
    replace G := Lib.hid (show Blk Y2 g 99 RS from (hF g (by omega)).trans G.out)
    replace HV := Lib.hid (show Blk Y2 _ _ _ from (hF _ (by omega)).trans HV.out)
    replace K := Lib.hid (K.out.trans (hB _ (Nat.le_refl _)))
    replace HX := Lib.hid hA
    clear hA hF hB
    refine hK.out _ _ G.out (fun _ => ?_)
    clear hK KK
    refine tkA 12 (?_) ?_ G.out ?_
    rotate_left
    · (intro w1 hS; clear hS; go_simp; try with_reducible rfl)
    simp only [Act.put, tS1, tS2, tS3]
    refine tkO 13 (fun KK hK => ?_)
    rw [if_pos (by rfl)]
    refine st_u8' _ _ _ _ _ _ KK _ _ (w.heap.size) 41 xf rfl rfl 50 _ HX.out (by have q := NPV.out; (try simp only [Array.size_setIfInBounds]); omega) ?_
    intro Y3 hA hF hB
    replace G := Lib.hid (show Blk Y3 g 99 RS from (hF g (by omega)).trans G.out)
    replace HV := Lib.hid (show Blk Y3 _ _ _ from (hF _ (by omega)).trans HV.out)
    replace K := Lib.hid (K.out.trans (hB _ (Nat.le_refl _)))
    replace HX := Lib.hid hA
    clear hA hF hB
    refine hK.out _ _ G.out (fun _ => ?_)
    clear hK KK
    refine wpAnyH_done (by kernel_rfl) ?_ _
    rw [PP.out] at HX
    have L2 : (loadVar 50 ⟨w.heap.size, 0, none⟩).run Try.prog Y3 = .ok (.agg VW) Y3 := run_blk_load (P := Try.prog) 50 (w.heap.size) _ HX.out Try.underlying50 rfl QVW.out
    replace L2 := Lib.hid L2
    go_wp2_with (first | ((with_reducible refine wpList_load_want (op := ⟨some 36, .load 50 (.tmp 3), _, _, _, _⟩) ?wg2 50 (.tmp 3) ?wo2 ⟨w.heap.size, 0, none⟩ ?wx2 (.agg VW) L2.out ?_); (case wg2 => rfl); (case wo2 => rfl); (case wx2 => rfl)) | ((with_reducible refine wpList_blk_store (op := ⟨none, .store 50 (.tmp 4) (.tmp 36), _, _, _, _⟩) ?sg3 50 (.tmp 4) (.tmp 36) ?so3 (w.heap.size + 1) VW ?sx3 ?sy3 HV.out YVW.out QVW.out AVW.out ?_); (case sg3 => rfl); (case so3 => rfl); (case sx3 => rfl); (case sy3 => rfl)))
    clear L2
    intro V91 hA hF hB
    replace K := Lib.hid (K.out.trans (hB _ (by omega)))
    replace HX := Lib.hid (show Blk _ _ _ _ from (hF _ (by omega)).trans HX.out)
    replace G := Lib.hid (show Blk _ _ _ _ from (hF _ (by omega)).trans G.out)
    replace HV := Lib.hid hA
    clear hA hF hB
    go_wp2
    have hrun := run_blk_load (P := Try.prog) 50 (w.heap.size + 1) _ HV.out Try.underlying50 rfl QVW.out
    exact bodyPost_ret (results_cell_tmp 4 50 5 (w.heap.size + 1) _ Try.results40 rfl hrun) rfl ⟨rfl, K.out⟩
end Go.Proofs.Ytnpibdjfafpegaa
