/- Texts that the walks of this seat lean on, put together. -/
import Derived.Deep.CutBlock
import Derived.Deep.DeepCutAuto
import Derived.Test.YthkaadcgiplolaaDoorTk
import Derived.Test.YthkaadcgiplolaaDoorM40
namespace Go.Proofs.YthkaadcgiplolaaDoor
open Go.RowKit Go.Lib
set_option maxRecDepth 100000 in
theorem vip_get (k : Fl) (h : k.Fit) : (vipc k)[0]? = some (.int .u8 (k.p : Int)) ∧ (vipc k)[18]? = some (.int .u16 (k.dp : Int)) ∧ ((vipc k).toList.drop 1).take (cellsA k.dv k.D).toList.length = (cellsA k.dv k.D).toList := by
  unfold vipc vcs
  have hD : (cellsA k.dv k.D).size = 17 := by rw [cellsA_size, h.lD]
  generalize cellsA k.dv k.D = D at *
  obtain ⟨y0, y1, y2, y3, y4, y5, y6, y7, y8, y9, y10, y11, y12, y13, y14, y15, y16, rfl⟩ := cells17 D hD
  exact ⟨rfl, rfl, rfl⟩
set_option maxRecDepth 100000 in
set_option maxHeartbeats 8000000 in
theorem vips_walk (a b : Fl) (ha : a.Fit) (hb : b.Fit) (w : World) (hE : Env w) :
    Calls Tryd.prog 7 #[.agg a.cs, .agg b.cs] w fun e w' => e = .returned (.bool true) ∧ Below w.heap.size w w' := by
  have K := Lib.hid (Below.refl w.heap.size w)
  have HE := Lib.hid hE
  have C1 := Lib.hid (fun W => kvip_any a ha W)
  have C2 := Lib.hid (fun W => kvip_any b hb W)
  have EVa := Lib.hid (fun W => eq_vip_yes a a ha ha rfl rfl rfl rfl W)
  have EDa := Lib.hid (fun W => eq_adr_yes a.dv a.D ha.lD ha.bD W)
  obtain ⟨u0, u1, u2⟩ := vip_get a ha
  have VG0 := Lib.hid u0
  have VG18 := Lib.hid u1
  have VP1 := Lib.hid u2
  have sV := vipc_size a ha
  have sW := vipc_size b hb
  have YV : Hid ((vipc a).size = Array.size (#[Value.int .u8 0, .bool false, .int .u8 0, .int .u8 0, .int .u8 0, .int .u8 0, .int .u8 0, .int .u8 0, .int .u8 0, .int .u8 0, .int .u8 0, .int .u8 0, .int .u8 0, .int .u8 0, .int .u8 0, .int .u8 0, .int .u8 0, .int .u8 0, .int .u16 0] : Array Value)) := sV
  have YW : Hid ((vipc b).size = Array.size (#[Value.int .u8 0, .bool false, .int .u8 0, .int .u8 0, .int .u8 0, .int .u8 0, .int .u8 0, .int .u8 0, .int .u8 0, .int .u8 0, .int .u8 0, .int .u8 0, .int .u8 0, .int .u8 0, .int .u8 0, .int .u8 0, .int .u8 0, .int .u8 0, .int .u16 0] : Array Value)) := sW
  have QV := Lib.hid (i39.trans (congrArg some sV.symm))
  have QW := Lib.hid (i39.trans (congrArg some sW.symm))
  have AV : Hid ((vipc a).all (·.oneCell') = true) := vcs_all a.p (cellsA a.dv a.D) a.dp (cellsA_all _ _)
  have AW : Hid ((vipc b).all (·.oneCell') = true) := vcs_all b.p (cellsA b.dv b.D) b.dp (cellsA_all _ _)
  have HC : Hid ((a.p ≠ b.p ∧ ∀ W, (Op.equalIn 10000 39 (.agg (vipc a)) (.agg (vipc b))).run Tryd.prog W = .ok false W)
      ∨ (a.p = b.p ∧ (∀ W, (Op.equalIn 10000 24 (.agg (cellsA a.dv a.D)) (.agg (cellsA b.dv b.D))).run Tryd.prog W = .ok false W) ∧ ∀ W, (Op.equalIn 10000 39 (.agg (vipc a)) (.agg (vipc b))).run Tryd.prog W = .ok false W)
      ∨ (a.p = b.p ∧ cellsA a.dv a.D = cellsA b.dv b.D ∧ a.dp ≠ b.dp ∧ ∀ W, (Op.equalIn 10000 39 (.agg (vipc a)) (.agg (vipc b))).run Tryd.prog W = .ok false W)
      ∨ (a.p = b.p ∧ cellsA a.dv a.D = cellsA b.dv b.D ∧ a.dp = b.dp ∧ vipc a = vipc b)) := by
    by_cases h1 : a.p = b.p
    · by_cases h2 : a.dv = b.dv ∧ a.D = b.D
      · have e : cellsA a.dv a.D = cellsA b.dv b.D := by rw [h2.1, h2.2]
        by_cases h3 : a.dp = b.dp
        · exact .inr (.inr (.inr ⟨h1, e, h3, by unfold vipc; rw [h1, e, h3]⟩))
        · exact .inr (.inr (.inl ⟨h1, e, h3, fun W => eq_vip_no a b ha hb (fun q => h3 q.2.2) W⟩))
      · exact .inr (.inl ⟨h1, fun W => eq_adr_no _ _ _ _ ha.lD ha.bD hb.lD hb.bD h2 W, fun W => eq_vip_no a b ha hb (fun q => h2 q.2.1) W⟩)
    · exact .inl ⟨h1, fun W => eq_vip_no a b ha hb (fun q => h1 q.1) W⟩
  clear u0 u1 u2 sV sW
  obtain ⟨a0, a1, a18, a35, a36⟩ := fl_get a ha
  have G0 := Lib.hid a0
  have G1 := Lib.hid a1
  have G18 := Lib.hid a18
  have G35 := Lib.hid a35
  have G36 := Lib.hid a36
  have KP1 := Lib.hid (fl_src a)
  have KP2 := Lib.hid (fl_dst a ha)
  have IS := Lib.hid (fl_is a ha)
  have ID := Lib.hid (fl_id a ha)
  have IK := Lib.hid (fl_ik a ha)
  clear a0 a1 a18 a35 a36
  obtain ⟨a0b, a1b, a18b, a35b, a36b⟩ := fl_get b hb
  have G0b := Lib.hid a0b
  have G1b := Lib.hid a1b
  have G18b := Lib.hid a18b
  have G35b := Lib.hid a35b
  have G36b := Lib.hid a36b
  have KP1b := Lib.hid (fl_src b)
  have KP2b := Lib.hid (fl_dst b hb)
  have ISb := Lib.hid (fl_is b hb)
  have IDb := Lib.hid (fl_id b hb)
  have IKb := Lib.hid (fl_ik b hb)
  clear a0b a1b a18b a35b a36b
  generalize vipc a = va at *
  generalize vipc b = vb at *
  generalize a.cs = kc at *
  generalize cellsA a.sv a.S = S at *
  generalize cellsA a.dv a.D = D at *
  generalize a.p = p at *
  generalize a.sv = sv at *
  generalize a.dv = dv at *
  generalize a.sp = sp at *
  generalize a.dp = dp at *
  generalize b.cs = kcb at *
  generalize cellsA b.sv b.S = Sb at *
  generalize cellsA b.dv b.D = Db at *
  generalize b.p = pb at *
  generalize b.sv = svb at *
  generalize b.dv = dvb at *
  generalize b.sp = spb at *
  generalize b.dp = dpb at *
  clear ha hb hE
  go_enter Tryd.func7, Tryd.ntmps7
  have hal := (Below.refl w.heap.size w).alloc (Nat.le_refl _) (.cells kc 27)
  replace K := Lib.hid (K.out.trans (hal.mono K.out.size))
  have N := Lib.hid (Blk.new w 27 kc)
  clear hal
  have hal := (Below.refl (w.alloc (.cells kc 27)).heap.size (w.alloc (.cells kc 27))).alloc (Nat.le_refl _) (.cells kcb 27)
  replace K := Lib.hid (K.out.trans (hal.mono K.out.size))
  replace N := Lib.hid (N.out.below hal N.out.lt)
  have Nbq := Blk.new (w.alloc (.cells kc 27)) 27 kcb
  simp only [World.size_alloc] at Nbq
  have Nb := Lib.hid Nbq
  clear Nbq
  clear hal
  go_upto_region 1 with fail
  have hzV1 : Hid (((w.alloc (.cells kc 27)).alloc (.cells kcb 27)).heap.size = w.heap.size + 1 + 1) := by show _ = _; simp only [World.size_alloc]
  generalize ((w.alloc (.cells kc 27)).alloc (.cells kcb 27)) = V1 at *
  have hlow : V1.heap.size ≤ V1.heap.size := Nat.le_refl _
  have qK := K.out.size
  have qN := N.out.lt
  have qNb := Nb.out.lt
  go_cut [5, 6] (fun s5 s6 wx => ∃ g5 g6, s5 = .pointer (some ⟨g5, 0, none⟩) ∧ s6 = .pointer (some ⟨g6, 0, none⟩) ∧ Blk wx g5 39 va ∧ Blk wx g6 39 vb ∧ Blk wx w.heap.size 27 kc ∧ Blk wx (w.heap.size + 1) 27 kcb ∧ Below w.heap.size w wx)
  case first =>
    refine wp_region_held (S := (fun w' : World => Below (V1.heap.size) V1 w')) (by kernel_rfl) ?_
    change wpAnyH _ _ _ _ _ _ _ _ V1.drew
    have hy : Below V1.heap.size V1 V1.drew := (Below.refl _ _).drew
    have hE0 : Below (V1.heap.size) V1 V1.drew := (Below.refl _ _).drew
    clear hy
    generalize V1.drew = Y1x0 at hE0  ⊢
    have E0 := Lib.hid hE0
    clear hE0
    refine tkA 0 (.agg kc) ?_ E0.out ?_
    · (intro w1 hS; have hW := hS; exact exec_load 27 (.tmp 2) rfl _ rfl _ (run_blk_load (P := Tryd.prog) 27 (w.heap.size) _ (N.out.below hW (by omega)) Tryd.underlying27 rfl IK.out))
    simp only [Act.put, tS1, tS2, tS3]
    refine tkA 2 (.agg kcb) ?_ E0.out ?_
    · (intro w1 hS; have hW := hS; exact exec_load 27 (.tmp 3) rfl _ rfl _ (run_blk_load (P := Tryd.prog) 27 (w.heap.size + 1) _ (Nb.out.below hW (by omega)) Tryd.underlying27 rfl IKb.out))
    simp only [Act.put, tS1, tS2, tS3]
    refine wpAnyH_ready (rs := [1, 4, 5]) (by kernel_rfl) (by simp) ?_
    refine AllReadyH.cons (o := { dst := some 9, op := Op.call { callee := Callee.value (Operand.func 17), args := #[Operand.tmp 8], argTypes := #[27] }, type := 39, pos := "law.go:73", after := #[{ on := 0, ground := Ground.data }], guard := none }) rfl (fun KK hK => ?_) ?_
    · go_simp
      refine (C1.out Y1x0).mono ?_
      rintro e Y1x1 ⟨rfl, hy⟩
      have E1 := Lib.hid (E0.out.trans (hy.mono (Nat.le_trans hlow E0.out.size)))
      have C1 := Lib.hid E1.out
      clear hy E0
      refine hK.out _ _ C1.out (fun _ => ?_)
      clear hK KK
      clear C1
      try simp only [Act.put, tS1, tS2, tS3]
      refine wpAnyH_ready (rs := [3, 4, 5]) (by kernel_rfl) (by simp) ?_
      refine AllReadyH.cons (o := { dst := some 11, op := Op.call { callee := Callee.value (Operand.func 17), args := #[Operand.tmp 10], argTypes := #[27] }, type := 39, pos := "law.go:73", after := #[{ on := 2, ground := Ground.data }, { on := 1, ground := Ground.chain }], guard := none }) rfl (fun KK hK => ?_) ?_
      · go_simp
        refine (C2.out Y1x1).mono ?_
        rintro e Y1x2 ⟨rfl, hy⟩
        have E2 := Lib.hid (E1.out.trans (hy.mono (Nat.le_trans hlow E1.out.size)))
        have C2 := Lib.hid E2.out
        clear hy E1
        refine hK.out _ _ C2.out (fun _ => ?_)
        clear hK KK
        clear C2
        try simp only [Act.put, tS1, tS2, tS3]
        refine wpAnyH_ready (rs := [4, 5]) (by kernel_rfl) (by simp) ?_
        refine AllReadyH.cons (o := { dst := some 5, op := Op.alloc 39, type := 0, pos := "law.go:73", after := #[], guard := none }) rfl (fun KK hK => ?_) ?_
        · go_simp
          have hy := (Below.refl Y1x2.heap.size Y1x2).alloc (Nat.le_refl _) (.cells (#[Value.int .u8 0, .bool false, .int .u8 0, .int .u8 0, .int .u8 0, .int .u8 0, .int .u8 0, .int .u8 0, .int .u8 0, .int .u8 0, .int .u8 0, .int .u8 0, .int .u8 0, .int .u8 0, .int .u8 0, .int .u8 0, .int .u8 0, .int .u8 0, .int .u16 0] : Array Value) 39)
          have BB := Blk.new Y1x2 39 (#[Value.int .u8 0, .bool false, .int .u8 0, .int .u8 0, .int .u8 0, .int .u8 0, .int .u8 0, .int .u8 0, .int .u8 0, .int .u8 0, .int .u8 0, .int .u8 0, .int .u8 0, .int .u8 0, .int .u8 0, .int .u8 0, .int .u8 0, .int .u8 0, .int .u16 0] : Array Value)
          have gl5 := E2.out.size
          obtain ⟨g5, hg5⟩ : ∃ g, g = Y1x2.heap.size := ⟨_, rfl⟩
          rw [← hg5] at BB gl5
          rw [← hg5]
          generalize Y1x2.alloc (.cells (#[Value.int .u8 0, .bool false, .int .u8 0, .int .u8 0, .int .u8 0, .int .u8 0, .int .u8 0, .int .u8 0, .int .u8 0, .int .u8 0, .int .u8 0, .int .u8 0, .int .u8 0, .int .u8 0, .int .u8 0, .int .u8 0, .int .u8 0, .int .u8 0, .int .u16 0] : Array Value) 39) = Y1x3 at BB hy ⊢
          clear hg5
          have E3 := Lib.hid (E2.out.trans (hy.mono (Nat.le_trans hlow E2.out.size)))
          have C3 := Lib.hid E3.out
          have G5 := Lib.hid (BB)
          clear BB
          clear hy E2
          refine hK.out _ _ C3.out (fun _ => ?_)
          clear hK KK
          clear C3
          try simp only [Act.put, tS1, tS2, tS3]
          refine tkO 5 (fun KK hK => ?_)
          go_simp
          have hy := (Below.refl Y1x3.heap.size Y1x3).alloc (Nat.le_refl _) (.cells (#[Value.int .u8 0, .bool false, .int .u8 0, .int .u8 0, .int .u8 0, .int .u8 0, .int .u8 0, .int .u8 0, .int .u8 0, .int .u8 0, .int .u8 0, .int .u8 0, .int .u8 0, .int .u8 0, .int .u8 0, .int .u8 0, .int .u8 0, .int .u8 0, .int .u16 0] : Array Value) 39)
          have BB := Blk.new Y1x3 39 (#[Value.int .u8 0, .bool false, .int .u8 0, .int .u8 0, .int .u8 0, .int .u8 0, .int .u8 0, .int .u8 0, .int .u8 0, .int .u8 0, .int .u8 0, .int .u8 0, .int .u8 0, .int .u8 0, .int .u8 0, .int .u8 0, .int .u8 0, .int .u8 0, .int .u16 0] : Array Value)
          have gl6 := E3.out.size
          have d56 := Nat.ne_of_lt G5.out.lt
          obtain ⟨g6, hg6⟩ : ∃ g, g = Y1x3.heap.size := ⟨_, rfl⟩
          rw [← hg6] at BB gl6 d56
          rw [← hg6]
          generalize Y1x3.alloc (.cells (#[Value.int .u8 0, .bool false, .int .u8 0, .int .u8 0, .int .u8 0, .int .u8 0, .int .u8 0, .int .u8 0, .int .u8 0, .int .u8 0, .int .u8 0, .int .u8 0, .int .u8 0, .int .u8 0, .int .u8 0, .int .u8 0, .int .u8 0, .int .u8 0, .int .u16 0] : Array Value) 39) = Y1x4 at BB hy ⊢
          clear hg6
          replace G5 := Lib.hid (G5.out.below hy G5.out.lt)
          have E4 := Lib.hid (E3.out.trans (hy.mono (Nat.le_trans hlow E3.out.size)))
          have C4 := Lib.hid E4.out
          have G6 := Lib.hid (BB)
          clear BB
          clear hy E3
          refine hK.out _ _ C4.out (fun _ => ?_)
          clear hK KK
          clear C4
          try simp only [Act.put, tS1, tS2, tS3]
          refine tkO 6 (fun KK hK => ?_)
          rw [if_pos (by rfl)]
          refine wp_blk_store 39 (.tmp 5) (.tmp 9) rfl va rfl rfl G5.out YV.out QV.out AV.out ?_
          intro Y1x5 hA hF hB
          have E5 := Lib.hid (E4.out.trans (hB _ gl5))
          replace G6 := Lib.hid (show Blk Y1x5 g6 39 (#[Value.int .u8 0, .bool false, .int .u8 0, .int .u8 0, .int .u8 0, .int .u8 0, .int .u8 0, .int .u8 0, .int .u8 0, .int .u8 0, .int .u8 0, .int .u8 0, .int .u8 0, .int .u8 0, .int .u8 0, .int .u8 0, .int .u8 0, .int .u8 0, .int .u16 0] : Array Value) from (hF _ (by omega)).trans G6.out)
          replace G5 := Lib.hid (show Blk Y1x5 g5 39 va from hA)
          clear hA hF hB E4
          refine hK.out _ _ E5.out (fun _ => ?_)
          clear hK KK
          simp only [Act.put]
          refine tkO 7 (fun KK hK => ?_)
          rw [if_pos (by rfl)]
          refine wp_blk_store 39 (.tmp 6) (.tmp 11) rfl vb rfl rfl G6.out YW.out QW.out AW.out ?_
          intro Y1x6 hA hF hB
          have E6 := Lib.hid (E5.out.trans (hB _ gl6))
          replace G5 := Lib.hid (show Blk Y1x6 g5 39 va from (hF _ (by omega)).trans G5.out)
          replace G6 := Lib.hid (show Blk Y1x6 g6 39 vb from hA)
          clear hA hF hB E5
          refine hK.out _ _ E6.out (fun _ => ?_)
          clear hK KK
          refine wpAnyH_done (by kernel_rfl) ?_ _
          go_wp2
          go_meet
          exact ⟨_, _, rfl, rfl, G5.out, G6.out, N.out.below E6.out qN, Nb.out.below E6.out qNb, K.out.trans (E6.out.mono qK)⟩
        refine AllReadyH.cons (o := { dst := some 6, op := Op.alloc 39, type := 0, pos := "law.go:73", after := #[], guard := none }) rfl (fun KK hK => ?_) AllReadyH.nil
        · go_simp
          have hy := (Below.refl Y1x2.heap.size Y1x2).alloc (Nat.le_refl _) (.cells (#[Value.int .u8 0, .bool false, .int .u8 0, .int .u8 0, .int .u8 0, .int .u8 0, .int .u8 0, .int .u8 0, .int .u8 0, .int .u8 0, .int .u8 0, .int .u8 0, .int .u8 0, .int .u8 0, .int .u8 0, .int .u8 0, .int .u8 0, .int .u8 0, .int .u16 0] : Array Value) 39)
          have BB := Blk.new Y1x2 39 (#[Value.int .u8 0, .bool false, .int .u8 0, .int .u8 0, .int .u8 0, .int .u8 0, .int .u8 0, .int .u8 0, .int .u8 0, .int .u8 0, .int .u8 0, .int .u8 0, .int .u8 0, .int .u8 0, .int .u8 0, .int .u8 0, .int .u8 0, .int .u8 0, .int .u16 0] : Array Value)
          have gl6 := E2.out.size
          obtain ⟨g6, hg6⟩ : ∃ g, g = Y1x2.heap.size := ⟨_, rfl⟩
          rw [← hg6] at BB gl6
          rw [← hg6]
          generalize Y1x2.alloc (.cells (#[Value.int .u8 0, .bool false, .int .u8 0, .int .u8 0, .int .u8 0, .int .u8 0, .int .u8 0, .int .u8 0, .int .u8 0, .int .u8 0, .int .u8 0, .int .u8 0, .int .u8 0, .int .u8 0, .int .u8 0, .int .u8 0, .int .u8 0, .int .u8 0, .int .u16 0] : Array Value) 39) = Y1x3 at BB hy ⊢
          clear hg6
          have E3 := Lib.hid (E2.out.trans (hy.mono (Nat.le_trans hlow E2.out.size)))
          have C3 := Lib.hid E3.out
          have G6 := Lib.hid (BB)
          clear BB
          clear hy E2
          refine hK.out _ _ C3.out (fun _ => ?_)
          clear hK KK
          clear C3
          try simp only [Act.put, tS1, tS2, tS3]
          refine tkO 4 (fun KK hK => ?_)
          go_simp
          have hy := (Below.refl Y1x3.heap.size Y1x3).alloc (Nat.le_refl _) (.cells (#[Value.int .u8 0, .bool false, .int .u8 0, .int .u8 0, .int .u8 0, .int .u8 0, .int .u8 0, .int .u8 0, .int .u8 0, .int .u8 0, .int .u8 0, .int .u8 0, .int .u8 0, .int .u8 0, .int .u8 0, .int .u8 0, .int .u8 0, .int .u8 0, .int .u16 0] : Array Value) 39)
          have BB := Blk.new Y1x3 39 (#[Value.int .u8 0, .bool false, .int .u8 0, .int .u8 0, .int .u8 0, .int .u8 0, .int .u8 0, .int .u8 0, .int .u8 0, .int .u8 0, .int .u8 0, .int .u8 0, .int .u8 0, .int .u8 0, .int .u8 0, .int .u8 0, .int .u8 0, .int .u8 0, .int .u16 0] : Array Value)
          have gl5 := E3.out.size
          have d56 := Nat.ne_of_lt G6.out.lt
          obtain ⟨g5, hg5⟩ : ∃ g, g = Y1x3.heap.size := ⟨_, rfl⟩
          rw [← hg5] at BB gl5 d56
          rw [← hg5]
          generalize Y1x3.alloc (.cells (#[Value.int .u8 0, .bool false, .int .u8 0, .int .u8 0, .int .u8 0, .int .u8 0, .int .u8 0, .int .u8 0, .int .u8 0, .int .u8 0, .int .u8 0, .int .u8 0, .int .u8 0, .int .u8 0, .int .u8 0, .int .u8 0, .int .u8 0, .int .u8 0, .int .u16 0] : Array Value) 39) = Y1x4 at BB hy ⊢
          clear hg5
          replace G6 := Lib.hid (G6.out.below hy G6.out.lt)
          have E4 := Lib.hid (E3.out.trans (hy.mono (Nat.le_trans hlow E3.out.size)))
          have C4 := Lib.hid E4.out
          have G5 := Lib.hid (BB)
          clear BB
          clear hy E3
          refine hK.out _ _ C4.out (fun _ => ?_)
          clear hK KK
          clear C4
          try simp only [Act.put, tS1, tS2, tS3]
          refine tkO 6 (fun KK hK => ?_)
          rw [if_pos (by rfl)]
          refine wp_blk_store 39 (.tmp 5) (.tmp 9) rfl va rfl rfl G5.out YV.out QV.out AV.out ?_
          intro Y1x5 hA hF hB
          have E5 := Lib.hid (E4.out.trans (hB _ gl5))
          replace G6 := Lib.hid (show Blk Y1x5 g6 39 (#[Value.int .u8 0, .bool false, .int .u8 0, .int .u8 0, .int .u8 0, .int .u8 0, .int .u8 0, .int .u8 0, .int .u8 0, .int .u8 0, .int .u8 0, .int .u8 0, .int .u8 0, .int .u8 0, .int .u8 0, .int .u8 0, .int .u8 0, .int .u8 0, .int .u16 0] : Array Value) from (hF _ (by omega)).trans G6.out)
          replace G5 := Lib.hid (show Blk Y1x5 g5 39 va from hA)
          clear hA hF hB E4
          refine hK.out _ _ E5.out (fun _ => ?_)
          clear hK KK
          simp only [Act.put]
          refine tkO 7 (fun KK hK => ?_)
          rw [if_pos (by rfl)]
          refine wp_blk_store 39 (.tmp 6) (.tmp 11) rfl vb rfl rfl G6.out YW.out QW.out AW.out ?_
          intro Y1x6 hA hF hB
          have E6 := Lib.hid (E5.out.trans (hB _ gl6))
          replace G5 := Lib.hid (show Blk Y1x6 g5 39 va from (hF _ (by omega)).trans G5.out)
          replace G6 := Lib.hid (show Blk Y1x6 g6 39 vb from hA)
          clear hA hF hB E5
          refine hK.out _ _ E6.out (fun _ => ?_)
          clear hK KK
          refine wpAnyH_done (by kernel_rfl) ?_ _
          go_wp2
          go_meet
          exact ⟨_, _, rfl, rfl, G5.out, G6.out, N.out.below E6.out qN, Nb.out.below E6.out qNb, K.out.trans (E6.out.mono qK)⟩
      refine AllReadyH.cons (o := { dst := some 5, op := Op.alloc 39, type := 0, pos := "law.go:73", after := #[], guard := none }) rfl (fun KK hK => ?_) ?_
      · go_simp
        have hy := (Below.refl Y1x1.heap.size Y1x1).alloc (Nat.le_refl _) (.cells (#[Value.int .u8 0, .bool false, .int .u8 0, .int .u8 0, .int .u8 0, .int .u8 0, .int .u8 0, .int .u8 0, .int .u8 0, .int .u8 0, .int .u8 0, .int .u8 0, .int .u8 0, .int .u8 0, .int .u8 0, .int .u8 0, .int .u8 0, .int .u8 0, .int .u16 0] : Array Value) 39)
        have BB := Blk.new Y1x1 39 (#[Value.int .u8 0, .bool false, .int .u8 0, .int .u8 0, .int .u8 0, .int .u8 0, .int .u8 0, .int .u8 0, .int .u8 0, .int .u8 0, .int .u8 0, .int .u8 0, .int .u8 0, .int .u8 0, .int .u8 0, .int .u8 0, .int .u8 0, .int .u8 0, .int .u16 0] : Array Value)
        have gl5 := E1.out.size
        obtain ⟨g5, hg5⟩ : ∃ g, g = Y1x1.heap.size := ⟨_, rfl⟩
        rw [← hg5] at BB gl5
        rw [← hg5]
        generalize Y1x1.alloc (.cells (#[Value.int .u8 0, .bool false, .int .u8 0, .int .u8 0, .int .u8 0, .int .u8 0, .int .u8 0, .int .u8 0, .int .u8 0, .int .u8 0, .int .u8 0, .int .u8 0, .int .u8 0, .int .u8 0, .int .u8 0, .int .u8 0, .int .u8 0, .int .u8 0, .int .u16 0] : Array Value) 39) = Y1x2 at BB hy ⊢
        clear hg5
        have E2 := Lib.hid (E1.out.trans (hy.mono (Nat.le_trans hlow E1.out.size)))
        have C2 := Lib.hid E2.out
        have G5 := Lib.hid (BB)
        clear BB
        clear hy E1
        refine hK.out _ _ C2.out (fun _ => ?_)
        clear hK KK
        clear C2
        try simp only [Act.put, tS1, tS2, tS3]
        refine wpAnyH_ready (rs := [3, 5]) (by kernel_rfl) (by simp) ?_
        refine AllReadyH.cons (o := { dst := some 11, op := Op.call { callee := Callee.value (Operand.func 17), args := #[Operand.tmp 10], argTypes := #[27] }, type := 39, pos := "law.go:73", after := #[{ on := 2, ground := Ground.data }, { on := 1, ground := Ground.chain }], guard := none }) rfl (fun KK hK => ?_) ?_
        · go_simp
          refine (C2.out Y1x2).mono ?_
          rintro e Y1x3 ⟨rfl, hy⟩
          replace G5 := Lib.hid (G5.out.below hy G5.out.lt)
          have E3 := Lib.hid (E2.out.trans (hy.mono (Nat.le_trans hlow E2.out.size)))
          have C3 := Lib.hid E3.out
          clear hy E2
          refine hK.out _ _ C3.out (fun _ => ?_)
          clear hK KK
          clear C3
          try simp only [Act.put, tS1, tS2, tS3]
          refine tkO 5 (fun KK hK => ?_)
          go_simp
          have hy := (Below.refl Y1x3.heap.size Y1x3).alloc (Nat.le_refl _) (.cells (#[Value.int .u8 0, .bool false, .int .u8 0, .int .u8 0, .int .u8 0, .int .u8 0, .int .u8 0, .int .u8 0, .int .u8 0, .int .u8 0, .int .u8 0, .int .u8 0, .int .u8 0, .int .u8 0, .int .u8 0, .int .u8 0, .int .u8 0, .int .u8 0, .int .u16 0] : Array Value) 39)
          have BB := Blk.new Y1x3 39 (#[Value.int .u8 0, .bool false, .int .u8 0, .int .u8 0, .int .u8 0, .int .u8 0, .int .u8 0, .int .u8 0, .int .u8 0, .int .u8 0, .int .u8 0, .int .u8 0, .int .u8 0, .int .u8 0, .int .u8 0, .int .u8 0, .int .u8 0, .int .u8 0, .int .u16 0] : Array Value)
          have gl6 := E3.out.size
          have d56 := Nat.ne_of_lt G5.out.lt
          obtain ⟨g6, hg6⟩ : ∃ g, g = Y1x3.heap.size := ⟨_, rfl⟩
          rw [← hg6] at BB gl6 d56
          rw [← hg6]
          generalize Y1x3.alloc (.cells (#[Value.int .u8 0, .bool false, .int .u8 0, .int .u8 0, .int .u8 0, .int .u8 0, .int .u8 0, .int .u8 0, .int .u8 0, .int .u8 0, .int .u8 0, .int .u8 0, .int .u8 0, .int .u8 0, .int .u8 0, .int .u8 0, .int .u8 0, .int .u8 0, .int .u16 0] : Array Value) 39) = Y1x4 at BB hy ⊢
          clear hg6
          replace G5 := Lib.hid (G5.out.below hy G5.out.lt)
          have E4 := Lib.hid (E3.out.trans (hy.mono (Nat.le_trans hlow E3.out.size)))
          have C4 := Lib.hid E4.out
          have G6 := Lib.hid (BB)
          clear BB
          clear hy E3
          refine hK.out _ _ C4.out (fun _ => ?_)
          clear hK KK
          clear C4
          try simp only [Act.put, tS1, tS2, tS3]
          refine tkO 6 (fun KK hK => ?_)
          rw [if_pos (by rfl)]
          refine wp_blk_store 39 (.tmp 5) (.tmp 9) rfl va rfl rfl G5.out YV.out QV.out AV.out ?_
          intro Y1x5 hA hF hB
          have E5 := Lib.hid (E4.out.trans (hB _ gl5))
          replace G6 := Lib.hid (show Blk Y1x5 g6 39 (#[Value.int .u8 0, .bool false, .int .u8 0, .int .u8 0, .int .u8 0, .int .u8 0, .int .u8 0, .int .u8 0, .int .u8 0, .int .u8 0, .int .u8 0, .int .u8 0, .int .u8 0, .int .u8 0, .int .u8 0, .int .u8 0, .int .u8 0, .int .u8 0, .int .u16 0] : Array Value) from (hF _ (by omega)).trans G6.out)
          replace G5 := Lib.hid (show Blk Y1x5 g5 39 va from hA)
          clear hA hF hB E4
          refine hK.out _ _ E5.out (fun _ => ?_)
          clear hK KK
          simp only [Act.put]
          refine tkO 7 (fun KK hK => ?_)
          rw [if_pos (by rfl)]
          refine wp_blk_store 39 (.tmp 6) (.tmp 11) rfl vb rfl rfl G6.out YW.out QW.out AW.out ?_
          intro Y1x6 hA hF hB
          have E6 := Lib.hid (E5.out.trans (hB _ gl6))
          replace G5 := Lib.hid (show Blk Y1x6 g5 39 va from (hF _ (by omega)).trans G5.out)
          replace G6 := Lib.hid (show Blk Y1x6 g6 39 vb from hA)
          clear hA hF hB E5
          refine hK.out _ _ E6.out (fun _ => ?_)
          clear hK KK
          refine wpAnyH_done (by kernel_rfl) ?_ _
          go_wp2
          go_meet
          exact ⟨_, _, rfl, rfl, G5.out, G6.out, N.out.below E6.out qN, Nb.out.below E6.out qNb, K.out.trans (E6.out.mono qK)⟩
        refine AllReadyH.cons (o := { dst := some 6, op := Op.alloc 39, type := 0, pos := "law.go:73", after := #[], guard := none }) rfl (fun KK hK => ?_) AllReadyH.nil
        · go_simp
          have hy := (Below.refl Y1x2.heap.size Y1x2).alloc (Nat.le_refl _) (.cells (#[Value.int .u8 0, .bool false, .int .u8 0, .int .u8 0, .int .u8 0, .int .u8 0, .int .u8 0, .int .u8 0, .int .u8 0, .int .u8 0, .int .u8 0, .int .u8 0, .int .u8 0, .int .u8 0, .int .u8 0, .int .u8 0, .int .u8 0, .int .u8 0, .int .u16 0] : Array Value) 39)
          have BB := Blk.new Y1x2 39 (#[Value.int .u8 0, .bool false, .int .u8 0, .int .u8 0, .int .u8 0, .int .u8 0, .int .u8 0, .int .u8 0, .int .u8 0, .int .u8 0, .int .u8 0, .int .u8 0, .int .u8 0, .int .u8 0, .int .u8 0, .int .u8 0, .int .u8 0, .int .u8 0, .int .u16 0] : Array Value)
          have gl6 := E2.out.size
          have d56 := Nat.ne_of_lt G5.out.lt
          obtain ⟨g6, hg6⟩ : ∃ g, g = Y1x2.heap.size := ⟨_, rfl⟩
          rw [← hg6] at BB gl6 d56
          rw [← hg6]
          generalize Y1x2.alloc (.cells (#[Value.int .u8 0, .bool false, .int .u8 0, .int .u8 0, .int .u8 0, .int .u8 0, .int .u8 0, .int .u8 0, .int .u8 0, .int .u8 0, .int .u8 0, .int .u8 0, .int .u8 0, .int .u8 0, .int .u8 0, .int .u8 0, .int .u8 0, .int .u8 0, .int .u16 0] : Array Value) 39) = Y1x3 at BB hy ⊢
          clear hg6
          replace G5 := Lib.hid (G5.out.below hy G5.out.lt)
          have E3 := Lib.hid (E2.out.trans (hy.mono (Nat.le_trans hlow E2.out.size)))
          have C3 := Lib.hid E3.out
          have G6 := Lib.hid (BB)
          clear BB
          clear hy E2
          refine hK.out _ _ C3.out (fun _ => ?_)
          clear hK KK
          clear C3
          try simp only [Act.put, tS1, tS2, tS3]
          refine tkO 3 (fun KK hK => ?_)
          go_simp
          refine (C2.out Y1x3).mono ?_
          rintro e Y1x4 ⟨rfl, hy⟩
          replace G5 := Lib.hid (G5.out.below hy G5.out.lt)
          replace G6 := Lib.hid (G6.out.below hy G6.out.lt)
          have E4 := Lib.hid (E3.out.trans (hy.mono (Nat.le_trans hlow E3.out.size)))
          have C4 := Lib.hid E4.out
          clear hy E3
          refine hK.out _ _ C4.out (fun _ => ?_)
          clear hK KK
          clear C4
          try simp only [Act.put, tS1, tS2, tS3]
          refine tkO 6 (fun KK hK => ?_)
          rw [if_pos (by rfl)]
          refine wp_blk_store 39 (.tmp 5) (.tmp 9) rfl va rfl rfl G5.out YV.out QV.out AV.out ?_
          intro Y1x5 hA hF hB
          have E5 := Lib.hid (E4.out.trans (hB _ gl5))
          replace G6 := Lib.hid (show Blk Y1x5 g6 39 (#[Value.int .u8 0, .bool false, .int .u8 0, .int .u8 0, .int .u8 0, .int .u8 0, .int .u8 0, .int .u8 0, .int .u8 0, .int .u8 0, .int .u8 0, .int .u8 0, .int .u8 0, .int .u8 0, .int .u8 0, .int .u8 0, .int .u8 0, .int .u8 0, .int .u16 0] : Array Value) from (hF _ (by omega)).trans G6.out)
          replace G5 := Lib.hid (show Blk Y1x5 g5 39 va from hA)
          clear hA hF hB E4
          refine hK.out _ _ E5.out (fun _ => ?_)
          clear hK KK
          simp only [Act.put]
          refine tkO 7 (fun KK hK => ?_)
          rw [if_pos (by rfl)]
          refine wp_blk_store 39 (.tmp 6) (.tmp 11) rfl vb rfl rfl G6.out YW.out QW.out AW.out ?_
          intro Y1x6 hA hF hB
          have E6 := Lib.hid (E5.out.trans (hB _ gl6))
          replace G5 := Lib.hid (show Blk Y1x6 g5 39 va from (hF _ (by omega)).trans G5.out)
          replace G6 := Lib.hid (show Blk Y1x6 g6 39 vb from hA)
          clear hA hF hB E5
          refine hK.out _ _ E6.out (fun _ => ?_)
          clear hK KK
          refine wpAnyH_done (by kernel_rfl) ?_ _
          go_wp2
          go_meet
          exact ⟨_, _, rfl, rfl, G5.out, G6.out, N.out.below E6.out qN, Nb.out.below E6.out qNb, K.out.trans (E6.out.mono qK)⟩
      refine AllReadyH.cons (o := { dst := some 6, op := Op.alloc 39, type := 0, pos := "law.go:73", after := #[], guard := none }) rfl (fun KK hK => ?_) AllReadyH.nil
      · go_simp
        have hy := (Below.refl Y1x1.heap.size Y1x1).alloc (Nat.le_refl _) (.cells (#[Value.int .u8 0, .bool false, .int .u8 0, .int .u8 0, .int .u8 0, .int .u8 0, .int .u8 0, .int .u8 0, .int .u8 0, .int .u8 0, .int .u8 0, .int .u8 0, .int .u8 0, .int .u8 0, .int .u8 0, .int .u8 0, .int .u8 0, .int .u8 0, .int .u16 0] : Array Value) 39)
        have BB := Blk.new Y1x1 39 (#[Value.int .u8 0, .bool false, .int .u8 0, .int .u8 0, .int .u8 0, .int .u8 0, .int .u8 0, .int .u8 0, .int .u8 0, .int .u8 0, .int .u8 0, .int .u8 0, .int .u8 0, .int .u8 0, .int .u8 0, .int .u8 0, .int .u8 0, .int .u8 0, .int .u16 0] : Array Value)
        have gl6 := E1.out.size
        obtain ⟨g6, hg6⟩ : ∃ g, g = Y1x1.heap.size := ⟨_, rfl⟩
        rw [← hg6] at BB gl6
        rw [← hg6]
        generalize Y1x1.alloc (.cells (#[Value.int .u8 0, .bool false, .int .u8 0, .int .u8 0, .int .u8 0, .int .u8 0, .int .u8 0, .int .u8 0, .int .u8 0, .int .u8 0, .int .u8 0, .int .u8 0, .int .u8 0, .int .u8 0, .int .u8 0, .int .u8 0, .int .u8 0, .int .u8 0, .int .u16 0] : Array Value) 39) = Y1x2 at BB hy ⊢
        clear hg6
        have E2 := Lib.hid (E1.out.trans (hy.mono (Nat.le_trans hlow E1.out.size)))
        have C2 := Lib.hid E2.out
        have G6 := Lib.hid (BB)
        clear BB
        clear hy E1
        refine hK.out _ _ C2.out (fun _ => ?_)
        clear hK KK
        clear C2
        try simp only [Act.put, tS1, tS2, tS3]
        refine wpAnyH_ready (rs := [3, 4]) (by kernel_rfl) (by simp) ?_
        refine AllReadyH.cons (o := { dst := some 11, op := Op.call { callee := Callee.value (Operand.func 17), args := #[Operand.tmp 10], argTypes := #[27] }, type := 39, pos := "law.go:73", after := #[{ on := 2, ground := Ground.data }, { on := 1, ground := Ground.chain }], guard := none }) rfl (fun KK hK => ?_) ?_
        · go_simp
          refine (C2.out Y1x2).mono ?_
          rintro e Y1x3 ⟨rfl, hy⟩
          replace G6 := Lib.hid (G6.out.below hy G6.out.lt)
          have E3 := Lib.hid (E2.out.trans (hy.mono (Nat.le_trans hlow E2.out.size)))
          have C3 := Lib.hid E3.out
          clear hy E2
          refine hK.out _ _ C3.out (fun _ => ?_)
          clear hK KK
          clear C3
          try simp only [Act.put, tS1, tS2, tS3]
          refine tkO 4 (fun KK hK => ?_)
          go_simp
          have hy := (Below.refl Y1x3.heap.size Y1x3).alloc (Nat.le_refl _) (.cells (#[Value.int .u8 0, .bool false, .int .u8 0, .int .u8 0, .int .u8 0, .int .u8 0, .int .u8 0, .int .u8 0, .int .u8 0, .int .u8 0, .int .u8 0, .int .u8 0, .int .u8 0, .int .u8 0, .int .u8 0, .int .u8 0, .int .u8 0, .int .u8 0, .int .u16 0] : Array Value) 39)
          have BB := Blk.new Y1x3 39 (#[Value.int .u8 0, .bool false, .int .u8 0, .int .u8 0, .int .u8 0, .int .u8 0, .int .u8 0, .int .u8 0, .int .u8 0, .int .u8 0, .int .u8 0, .int .u8 0, .int .u8 0, .int .u8 0, .int .u8 0, .int .u8 0, .int .u8 0, .int .u8 0, .int .u16 0] : Array Value)
          have gl5 := E3.out.size
          have d56 := Nat.ne_of_lt G6.out.lt
          obtain ⟨g5, hg5⟩ : ∃ g, g = Y1x3.heap.size := ⟨_, rfl⟩
          rw [← hg5] at BB gl5 d56
          rw [← hg5]
          generalize Y1x3.alloc (.cells (#[Value.int .u8 0, .bool false, .int .u8 0, .int .u8 0, .int .u8 0, .int .u8 0, .int .u8 0, .int .u8 0, .int .u8 0, .int .u8 0, .int .u8 0, .int .u8 0, .int .u8 0, .int .u8 0, .int .u8 0, .int .u8 0, .int .u8 0, .int .u8 0, .int .u16 0] : Array Value) 39) = Y1x4 at BB hy ⊢
          clear hg5
          replace G6 := Lib.hid (G6.out.below hy G6.out.lt)
          have E4 := Lib.hid (E3.out.trans (hy.mono (Nat.le_trans hlow E3.out.size)))
          have C4 := Lib.hid E4.out
          have G5 := Lib.hid (BB)
          clear BB
          clear hy E3
          refine hK.out _ _ C4.out (fun _ => ?_)
          clear hK KK
          clear C4
          try simp only [Act.put, tS1, tS2, tS3]
          refine tkO 6 (fun KK hK => ?_)
          rw [if_pos (by rfl)]
          refine wp_blk_store 39 (.tmp 5) (.tmp 9) rfl va rfl rfl G5.out YV.out QV.out AV.out ?_
          intro Y1x5 hA hF hB
          have E5 := Lib.hid (E4.out.trans (hB _ gl5))
          replace G6 := Lib.hid (show Blk Y1x5 g6 39 (#[Value.int .u8 0, .bool false, .int .u8 0, .int .u8 0, .int .u8 0, .int .u8 0, .int .u8 0, .int .u8 0, .int .u8 0, .int .u8 0, .int .u8 0, .int .u8 0, .int .u8 0, .int .u8 0, .int .u8 0, .int .u8 0, .int .u8 0, .int .u8 0, .int .u16 0] : Array Value) from (hF _ (by omega)).trans G6.out)
          replace G5 := Lib.hid (show Blk Y1x5 g5 39 va from hA)
          clear hA hF hB E4
          refine hK.out _ _ E5.out (fun _ => ?_)
          clear hK KK
          simp only [Act.put]
          refine tkO 7 (fun KK hK => ?_)
          rw [if_pos (by rfl)]
          refine wp_blk_store 39 (.tmp 6) (.tmp 11) rfl vb rfl rfl G6.out YW.out QW.out AW.out ?_
          intro Y1x6 hA hF hB
          have E6 := Lib.hid (E5.out.trans (hB _ gl6))
          replace G5 := Lib.hid (show Blk Y1x6 g5 39 va from (hF _ (by omega)).trans G5.out)
          replace G6 := Lib.hid (show Blk Y1x6 g6 39 vb from hA)
          clear hA hF hB E5
          refine hK.out _ _ E6.out (fun _ => ?_)
          clear hK KK
          refine wpAnyH_done (by kernel_rfl) ?_ _
          go_wp2
          go_meet
          exact ⟨_, _, rfl, rfl, G5.out, G6.out, N.out.below E6.out qN, Nb.out.below E6.out qNb, K.out.trans (E6.out.mono qK)⟩
        refine AllReadyH.cons (o := { dst := some 5, op := Op.alloc 39, type := 0, pos := "law.go:73", after := #[], guard := none }) rfl (fun KK hK => ?_) AllReadyH.nil
        · go_simp
          have hy := (Below.refl Y1x2.heap.size Y1x2).alloc (Nat.le_refl _) (.cells (#[Value.int .u8 0, .bool false, .int .u8 0, .int .u8 0, .int .u8 0, .int .u8 0, .int .u8 0, .int .u8 0, .int .u8 0, .int .u8 0, .int .u8 0, .int .u8 0, .int .u8 0, .int .u8 0, .int .u8 0, .int .u8 0, .int .u8 0, .int .u8 0, .int .u16 0] : Array Value) 39)
          have BB := Blk.new Y1x2 39 (#[Value.int .u8 0, .bool false, .int .u8 0, .int .u8 0, .int .u8 0, .int .u8 0, .int .u8 0, .int .u8 0, .int .u8 0, .int .u8 0, .int .u8 0, .int .u8 0, .int .u8 0, .int .u8 0, .int .u8 0, .int .u8 0, .int .u8 0, .int .u8 0, .int .u16 0] : Array Value)
          have gl5 := E2.out.size
          have d56 := Nat.ne_of_lt G6.out.lt
          obtain ⟨g5, hg5⟩ : ∃ g, g = Y1x2.heap.size := ⟨_, rfl⟩
          rw [← hg5] at BB gl5 d56
          rw [← hg5]
          generalize Y1x2.alloc (.cells (#[Value.int .u8 0, .bool false, .int .u8 0, .int .u8 0, .int .u8 0, .int .u8 0, .int .u8 0, .int .u8 0, .int .u8 0, .int .u8 0, .int .u8 0, .int .u8 0, .int .u8 0, .int .u8 0, .int .u8 0, .int .u8 0, .int .u8 0, .int .u8 0, .int .u16 0] : Array Value) 39) = Y1x3 at BB hy ⊢
          clear hg5
          replace G6 := Lib.hid (G6.out.below hy G6.out.lt)
          have E3 := Lib.hid (E2.out.trans (hy.mono (Nat.le_trans hlow E2.out.size)))
          have C3 := Lib.hid E3.out
          have G5 := Lib.hid (BB)
          clear BB
          clear hy E2
          refine hK.out _ _ C3.out (fun _ => ?_)
          clear hK KK
          clear C3
          try simp only [Act.put, tS1, tS2, tS3]
          refine tkO 3 (fun KK hK => ?_)
          go_simp
          refine (C2.out Y1x3).mono ?_
          rintro e Y1x4 ⟨rfl, hy⟩
          replace G6 := Lib.hid (G6.out.below hy G6.out.lt)
          replace G5 := Lib.hid (G5.out.below hy G5.out.lt)
          have E4 := Lib.hid (E3.out.trans (hy.mono (Nat.le_trans hlow E3.out.size)))
          have C4 := Lib.hid E4.out
          clear hy E3
          refine hK.out _ _ C4.out (fun _ => ?_)
          clear hK KK
          clear C4
          try simp only [Act.put, tS1, tS2, tS3]
          refine tkO 6 (fun KK hK => ?_)
          rw [if_pos (by rfl)]
          refine wp_blk_store 39 (.tmp 5) (.tmp 9) rfl va rfl rfl G5.out YV.out QV.out AV.out ?_
          intro Y1x5 hA hF hB
          have E5 := Lib.hid (E4.out.trans (hB _ gl5))
          replace G6 := Lib.hid (show Blk Y1x5 g6 39 (#[Value.int .u8 0, .bool false, .int .u8 0, .int .u8 0, .int .u8 0, .int .u8 0, .int .u8 0, .int .u8 0, .int .u8 0, .int .u8 0, .int .u8 0, .int .u8 0, .int .u8 0, .int .u8 0, .int .u8 0, .int .u8 0, .int .u8 0, .int .u8 0, .int .u16 0] : Array Value) from (hF _ (by omega)).trans G6.out)
          replace G5 := Lib.hid (show Blk Y1x5 g5 39 va from hA)
          clear hA hF hB E4
          refine hK.out _ _ E5.out (fun _ => ?_)
          clear hK KK
          simp only [Act.put]
          refine tkO 7 (fun KK hK => ?_)
          rw [if_pos (by rfl)]
          refine wp_blk_store 39 (.tmp 6) (.tmp 11) rfl vb rfl rfl G6.out YW.out QW.out AW.out ?_
          intro Y1x6 hA hF hB
          have E6 := Lib.hid (E5.out.trans (hB _ gl6))
          replace G5 := Lib.hid (show Blk Y1x6 g5 39 va from (hF _ (by omega)).trans G5.out)
          replace G6 := Lib.hid (show Blk Y1x6 g6 39 vb from hA)
          clear hA hF hB E5
          refine hK.out _ _ E6.out (fun _ => ?_)
          clear hK KK
          refine wpAnyH_done (by kernel_rfl) ?_ _
          go_wp2
          go_meet
          exact ⟨_, _, rfl, rfl, G5.out, G6.out, N.out.below E6.out qN, Nb.out.below E6.out qNb, K.out.trans (E6.out.mono qK)⟩
    refine AllReadyH.cons (o := { dst := some 5, op := Op.alloc 39, type := 0, pos := "law.go:73", after := #[], guard := none }) rfl (fun KK hK => ?_) ?_
    · go_simp
      have hy := (Below.refl Y1x0.heap.size Y1x0).alloc (Nat.le_refl _) (.cells (#[Value.int .u8 0, .bool false, .int .u8 0, .int .u8 0, .int .u8 0, .int .u8 0, .int .u8 0, .int .u8 0, .int .u8 0, .int .u8 0, .int .u8 0, .int .u8 0, .int .u8 0, .int .u8 0, .int .u8 0, .int .u8 0, .int .u8 0, .int .u8 0, .int .u16 0] : Array Value) 39)
      have BB := Blk.new Y1x0 39 (#[Value.int .u8 0, .bool false, .int .u8 0, .int .u8 0, .int .u8 0, .int .u8 0, .int .u8 0, .int .u8 0, .int .u8 0, .int .u8 0, .int .u8 0, .int .u8 0, .int .u8 0, .int .u8 0, .int .u8 0, .int .u8 0, .int .u8 0, .int .u8 0, .int .u16 0] : Array Value)
      have gl5 := E0.out.size
      obtain ⟨g5, hg5⟩ : ∃ g, g = Y1x0.heap.size := ⟨_, rfl⟩
      rw [← hg5] at BB gl5
      rw [← hg5]
      generalize Y1x0.alloc (.cells (#[Value.int .u8 0, .bool false, .int .u8 0, .int .u8 0, .int .u8 0, .int .u8 0, .int .u8 0, .int .u8 0, .int .u8 0, .int .u8 0, .int .u8 0, .int .u8 0, .int .u8 0, .int .u8 0, .int .u8 0, .int .u8 0, .int .u8 0, .int .u8 0, .int .u16 0] : Array Value) 39) = Y1x1 at BB hy ⊢
      clear hg5
      have E1 := Lib.hid (E0.out.trans (hy.mono (Nat.le_trans hlow E0.out.size)))
      have C1 := Lib.hid E1.out
      have G5 := Lib.hid (BB)
      clear BB
      clear hy E0
      refine hK.out _ _ C1.out (fun _ => ?_)
      clear hK KK
      clear C1
      try simp only [Act.put, tS1, tS2, tS3]
      refine wpAnyH_ready (rs := [1, 5]) (by kernel_rfl) (by simp) ?_
      refine AllReadyH.cons (o := { dst := some 9, op := Op.call { callee := Callee.value (Operand.func 17), args := #[Operand.tmp 8], argTypes := #[27] }, type := 39, pos := "law.go:73", after := #[{ on := 0, ground := Ground.data }], guard := none }) rfl (fun KK hK => ?_) ?_
      · go_simp
        refine (C1.out Y1x1).mono ?_
        rintro e Y1x2 ⟨rfl, hy⟩
        replace G5 := Lib.hid (G5.out.below hy G5.out.lt)
        have E2 := Lib.hid (E1.out.trans (hy.mono (Nat.le_trans hlow E1.out.size)))
        have C2 := Lib.hid E2.out
        clear hy E1
        refine hK.out _ _ C2.out (fun _ => ?_)
        clear hK KK
        clear C2
        try simp only [Act.put, tS1, tS2, tS3]
        refine wpAnyH_ready (rs := [3, 5]) (by kernel_rfl) (by simp) ?_
        refine AllReadyH.cons (o := { dst := some 11, op := Op.call { callee := Callee.value (Operand.func 17), args := #[Operand.tmp 10], argTypes := #[27] }, type := 39, pos := "law.go:73", after := #[{ on := 2, ground := Ground.data }, { on := 1, ground := Ground.chain }], guard := none }) rfl (fun KK hK => ?_) ?_
        · go_simp
          refine (C2.out Y1x2).mono ?_
          rintro e Y1x3 ⟨rfl, hy⟩
          replace G5 := Lib.hid (G5.out.below hy G5.out.lt)
          have E3 := Lib.hid (E2.out.trans (hy.mono (Nat.le_trans hlow E2.out.size)))
          have C3 := Lib.hid E3.out
          clear hy E2
          refine hK.out _ _ C3.out (fun _ => ?_)
          clear hK KK
          clear C3
          try simp only [Act.put, tS1, tS2, tS3]
          refine tkO 5 (fun KK hK => ?_)
          go_simp
          have hy := (Below.refl Y1x3.heap.size Y1x3).alloc (Nat.le_refl _) (.cells (#[Value.int .u8 0, .bool false, .int .u8 0, .int .u8 0, .int .u8 0, .int .u8 0, .int .u8 0, .int .u8 0, .int .u8 0, .int .u8 0, .int .u8 0, .int .u8 0, .int .u8 0, .int .u8 0, .int .u8 0, .int .u8 0, .int .u8 0, .int .u8 0, .int .u16 0] : Array Value) 39)
          have BB := Blk.new Y1x3 39 (#[Value.int .u8 0, .bool false, .int .u8 0, .int .u8 0, .int .u8 0, .int .u8 0, .int .u8 0, .int .u8 0, .int .u8 0, .int .u8 0, .int .u8 0, .int .u8 0, .int .u8 0, .int .u8 0, .int .u8 0, .int .u8 0, .int .u8 0, .int .u8 0, .int .u16 0] : Array Value)
          have gl6 := E3.out.size
          have d56 := Nat.ne_of_lt G5.out.lt
          obtain ⟨g6, hg6⟩ : ∃ g, g = Y1x3.heap.size := ⟨_, rfl⟩
          rw [← hg6] at BB gl6 d56
          rw [← hg6]
          generalize Y1x3.alloc (.cells (#[Value.int .u8 0, .bool false, .int .u8 0, .int .u8 0, .int .u8 0, .int .u8 0, .int .u8 0, .int .u8 0, .int .u8 0, .int .u8 0, .int .u8 0, .int .u8 0, .int .u8 0, .int .u8 0, .int .u8 0, .int .u8 0, .int .u8 0, .int .u8 0, .int .u16 0] : Array Value) 39) = Y1x4 at BB hy ⊢
          clear hg6
          replace G5 := Lib.hid (G5.out.below hy G5.out.lt)
          have E4 := Lib.hid (E3.out.trans (hy.mono (Nat.le_trans hlow E3.out.size)))
          have C4 := Lib.hid E4.out
          have G6 := Lib.hid (BB)
          clear BB
          clear hy E3
          refine hK.out _ _ C4.out (fun _ => ?_)
          clear hK KK
          clear C4
          try simp only [Act.put, tS1, tS2, tS3]
          refine tkO 6 (fun KK hK => ?_)
          rw [if_pos (by rfl)]
          refine wp_blk_store 39 (.tmp 5) (.tmp 9) rfl va rfl rfl G5.out YV.out QV.out AV.out ?_
          intro Y1x5 hA hF hB
          have E5 := Lib.hid (E4.out.trans (hB _ gl5))
          replace G6 := Lib.hid (show Blk Y1x5 g6 39 (#[Value.int .u8 0, .bool false, .int .u8 0, .int .u8 0, .int .u8 0, .int .u8 0, .int .u8 0, .int .u8 0, .int .u8 0, .int .u8 0, .int .u8 0, .int .u8 0, .int .u8 0, .int .u8 0, .int .u8 0, .int .u8 0, .int .u8 0, .int .u8 0, .int .u16 0] : Array Value) from (hF _ (by omega)).trans G6.out)
          replace G5 := Lib.hid (show Blk Y1x5 g5 39 va from hA)
          clear hA hF hB E4
          refine hK.out _ _ E5.out (fun _ => ?_)
          clear hK KK
          simp only [Act.put]
          refine tkO 7 (fun KK hK => ?_)
          rw [if_pos (by rfl)]
          refine wp_blk_store 39 (.tmp 6) (.tmp 11) rfl vb rfl rfl G6.out YW.out QW.out AW.out ?_
          intro Y1x6 hA hF hB
          have E6 := Lib.hid (E5.out.trans (hB _ gl6))
          replace G5 := Lib.hid (show Blk Y1x6 g5 39 va from (hF _ (by omega)).trans G5.out)
          replace G6 := Lib.hid (show Blk Y1x6 g6 39 vb from hA)
          clear hA hF hB E5
          refine hK.out _ _ E6.out (fun _ => ?_)
          clear hK KK
          refine wpAnyH_done (by kernel_rfl) ?_ _
          go_wp2
          go_meet
          exact ⟨_, _, rfl, rfl, G5.out, G6.out, N.out.below E6.out qN, Nb.out.below E6.out qNb, K.out.trans (E6.out.mono qK)⟩
        refine AllReadyH.cons (o := { dst := some 6, op := Op.alloc 39, type := 0, pos := "law.go:73", after := #[], guard := none }) rfl (fun KK hK => ?_) AllReadyH.nil
        · go_simp
          have hy := (Below.refl Y1x2.heap.size Y1x2).alloc (Nat.le_refl _) (.cells (#[Value.int .u8 0, .bool false, .int .u8 0, .int .u8 0, .int .u8 0, .int .u8 0, .int .u8 0, .int .u8 0, .int .u8 0, .int .u8 0, .int .u8 0, .int .u8 0, .int .u8 0, .int .u8 0, .int .u8 0, .int .u8 0, .int .u8 0, .int .u8 0, .int .u16 0] : Array Value) 39)
          have BB := Blk.new Y1x2 39 (#[Value.int .u8 0, .bool false, .int .u8 0, .int .u8 0, .int .u8 0, .int .u8 0, .int .u8 0, .int .u8 0, .int .u8 0, .int .u8 0, .int .u8 0, .int .u8 0, .int .u8 0, .int .u8 0, .int .u8 0, .int .u8 0, .int .u8 0, .int .u8 0, .int .u16 0] : Array Value)
          have gl6 := E2.out.size
          have d56 := Nat.ne_of_lt G5.out.lt
          obtain ⟨g6, hg6⟩ : ∃ g, g = Y1x2.heap.size := ⟨_, rfl⟩
          rw [← hg6] at BB gl6 d56
          rw [← hg6]
          generalize Y1x2.alloc (.cells (#[Value.int .u8 0, .bool false, .int .u8 0, .int .u8 0, .int .u8 0, .int .u8 0, .int .u8 0, .int .u8 0, .int .u8 0, .int .u8 0, .int .u8 0, .int .u8 0, .int .u8 0, .int .u8 0, .int .u8 0, .int .u8 0, .int .u8 0, .int .u8 0, .int .u16 0] : Array Value) 39) = Y1x3 at BB hy ⊢
          clear hg6
          replace G5 := Lib.hid (G5.out.below hy G5.out.lt)
          have E3 := Lib.hid (E2.out.trans (hy.mono (Nat.le_trans hlow E2.out.size)))
          have C3 := Lib.hid E3.out
          have G6 := Lib.hid (BB)
          clear BB
          clear hy E2
          refine hK.out _ _ C3.out (fun _ => ?_)
          clear hK KK
          clear C3
          try simp only [Act.put, tS1, tS2, tS3]
          refine tkO 3 (fun KK hK => ?_)
          go_simp
          refine (C2.out Y1x3).mono ?_
          rintro e Y1x4 ⟨rfl, hy⟩
          replace G5 := Lib.hid (G5.out.below hy G5.out.lt)
          replace G6 := Lib.hid (G6.out.below hy G6.out.lt)
          have E4 := Lib.hid (E3.out.trans (hy.mono (Nat.le_trans hlow E3.out.size)))
          have C4 := Lib.hid E4.out
          clear hy E3
          refine hK.out _ _ C4.out (fun _ => ?_)
          clear hK KK
          clear C4
          try simp only [Act.put, tS1, tS2, tS3]
          refine tkO 6 (fun KK hK => ?_)
          rw [if_pos (by rfl)]
          refine wp_blk_store 39 (.tmp 5) (.tmp 9) rfl va rfl rfl G5.out YV.out QV.out AV.out ?_
          intro Y1x5 hA hF hB
          have E5 := Lib.hid (E4.out.trans (hB _ gl5))
          replace G6 := Lib.hid (show Blk Y1x5 g6 39 (#[Value.int .u8 0, .bool false, .int .u8 0, .int .u8 0, .int .u8 0, .int .u8 0, .int .u8 0, .int .u8 0, .int .u8 0, .int .u8 0, .int .u8 0, .int .u8 0, .int .u8 0, .int .u8 0, .int .u8 0, .int .u8 0, .int .u8 0, .int .u8 0, .int .u16 0] : Array Value) from (hF _ (by omega)).trans G6.out)
          replace G5 := Lib.hid (show Blk Y1x5 g5 39 va from hA)
          clear hA hF hB E4
          refine hK.out _ _ E5.out (fun _ => ?_)
          clear hK KK
          simp only [Act.put]
          refine tkO 7 (fun KK hK => ?_)
          rw [if_pos (by rfl)]
          refine wp_blk_store 39 (.tmp 6) (.tmp 11) rfl vb rfl rfl G6.out YW.out QW.out AW.out ?_
          intro Y1x6 hA hF hB
          have E6 := Lib.hid (E5.out.trans (hB _ gl6))
          replace G5 := Lib.hid (show Blk Y1x6 g5 39 va from (hF _ (by omega)).trans G5.out)
          replace G6 := Lib.hid (show Blk Y1x6 g6 39 vb from hA)
          clear hA hF hB E5
          refine hK.out _ _ E6.out (fun _ => ?_)
          clear hK KK
          refine wpAnyH_done (by kernel_rfl) ?_ _
          go_wp2
          go_meet
          exact ⟨_, _, rfl, rfl, G5.out, G6.out, N.out.below E6.out qN, Nb.out.below E6.out qNb, K.out.trans (E6.out.mono qK)⟩
      refine AllReadyH.cons (o := { dst := some 6, op := Op.alloc 39, type := 0, pos := "law.go:73", after := #[], guard := none }) rfl (fun KK hK => ?_) AllReadyH.nil
      · go_simp
        have hy := (Below.refl Y1x1.heap.size Y1x1).alloc (Nat.le_refl _) (.cells (#[Value.int .u8 0, .bool false, .int .u8 0, .int .u8 0, .int .u8 0, .int .u8 0, .int .u8 0, .int .u8 0, .int .u8 0, .int .u8 0, .int .u8 0, .int .u8 0, .int .u8 0, .int .u8 0, .int .u8 0, .int .u8 0, .int .u8 0, .int .u8 0, .int .u16 0] : Array Value) 39)
        have BB := Blk.new Y1x1 39 (#[Value.int .u8 0, .bool false, .int .u8 0, .int .u8 0, .int .u8 0, .int .u8 0, .int .u8 0, .int .u8 0, .int .u8 0, .int .u8 0, .int .u8 0, .int .u8 0, .int .u8 0, .int .u8 0, .int .u8 0, .int .u8 0, .int .u8 0, .int .u8 0, .int .u16 0] : Array Value)
        have gl6 := E1.out.size
        have d56 := Nat.ne_of_lt G5.out.lt
        obtain ⟨g6, hg6⟩ : ∃ g, g = Y1x1.heap.size := ⟨_, rfl⟩
        rw [← hg6] at BB gl6 d56
        rw [← hg6]
        generalize Y1x1.alloc (.cells (#[Value.int .u8 0, .bool false, .int .u8 0, .int .u8 0, .int .u8 0, .int .u8 0, .int .u8 0, .int .u8 0, .int .u8 0, .int .u8 0, .int .u8 0, .int .u8 0, .int .u8 0, .int .u8 0, .int .u8 0, .int .u8 0, .int .u8 0, .int .u8 0, .int .u16 0] : Array Value) 39) = Y1x2 at BB hy ⊢
        clear hg6
        replace G5 := Lib.hid (G5.out.below hy G5.out.lt)
        have E2 := Lib.hid (E1.out.trans (hy.mono (Nat.le_trans hlow E1.out.size)))
        have C2 := Lib.hid E2.out
        have G6 := Lib.hid (BB)
        clear BB
        clear hy E1
        refine hK.out _ _ C2.out (fun _ => ?_)
        clear hK KK
        clear C2
        try simp only [Act.put, tS1, tS2, tS3]
        refine tkO 1 (fun KK hK => ?_)
        go_simp
        refine (C1.out Y1x2).mono ?_
        rintro e Y1x3 ⟨rfl, hy⟩
        replace G5 := Lib.hid (G5.out.below hy G5.out.lt)
        replace G6 := Lib.hid (G6.out.below hy G6.out.lt)
        have E3 := Lib.hid (E2.out.trans (hy.mono (Nat.le_trans hlow E2.out.size)))
        have C3 := Lib.hid E3.out
        clear hy E2
        refine hK.out _ _ C3.out (fun _ => ?_)
        clear hK KK
        clear C3
        try simp only [Act.put, tS1, tS2, tS3]
        refine tkO 3 (fun KK hK => ?_)
        go_simp
        refine (C2.out Y1x3).mono ?_
        rintro e Y1x4 ⟨rfl, hy⟩
        replace G5 := Lib.hid (G5.out.below hy G5.out.lt)
        replace G6 := Lib.hid (G6.out.below hy G6.out.lt)
        have E4 := Lib.hid (E3.out.trans (hy.mono (Nat.le_trans hlow E3.out.size)))
        have C4 := Lib.hid E4.out
        clear hy E3
        refine hK.out _ _ C4.out (fun _ => ?_)
        clear hK KK
        clear C4
        try simp only [Act.put, tS1, tS2, tS3]
        refine tkO 6 (fun KK hK => ?_)
        rw [if_pos (by rfl)]
        refine wp_blk_store 39 (.tmp 5) (.tmp 9) rfl va rfl rfl G5.out YV.out QV.out AV.out ?_
        intro Y1x5 hA hF hB
        have E5 := Lib.hid (E4.out.trans (hB _ gl5))
        replace G6 := Lib.hid (show Blk Y1x5 g6 39 (#[Value.int .u8 0, .bool false, .int .u8 0, .int .u8 0, .int .u8 0, .int .u8 0, .int .u8 0, .int .u8 0, .int .u8 0, .int .u8 0, .int .u8 0, .int .u8 0, .int .u8 0, .int .u8 0, .int .u8 0, .int .u8 0, .int .u8 0, .int .u8 0, .int .u16 0] : Array Value) from (hF _ (by omega)).trans G6.out)
        replace G5 := Lib.hid (show Blk Y1x5 g5 39 va from hA)
        clear hA hF hB E4
        refine hK.out _ _ E5.out (fun _ => ?_)
        clear hK KK
        simp only [Act.put]
        refine tkO 7 (fun KK hK => ?_)
        rw [if_pos (by rfl)]
        refine wp_blk_store 39 (.tmp 6) (.tmp 11) rfl vb rfl rfl G6.out YW.out QW.out AW.out ?_
        intro Y1x6 hA hF hB
        have E6 := Lib.hid (E5.out.trans (hB _ gl6))
        replace G5 := Lib.hid (show Blk Y1x6 g5 39 va from (hF _ (by omega)).trans G5.out)
        replace G6 := Lib.hid (show Blk Y1x6 g6 39 vb from hA)
        clear hA hF hB E5
        refine hK.out _ _ E6.out (fun _ => ?_)
        clear hK KK
        refine wpAnyH_done (by kernel_rfl) ?_ _
        go_wp2
        go_meet
        exact ⟨_, _, rfl, rfl, G5.out, G6.out, N.out.below E6.out qN, Nb.out.below E6.out qNb, K.out.trans (E6.out.mono qK)⟩
    refine AllReadyH.cons (o := { dst := some 6, op := Op.alloc 39, type := 0, pos := "law.go:73", after := #[], guard := none }) rfl (fun KK hK => ?_) AllReadyH.nil
    · go_simp
      have hy := (Below.refl Y1x0.heap.size Y1x0).alloc (Nat.le_refl _) (.cells (#[Value.int .u8 0, .bool false, .int .u8 0, .int .u8 0, .int .u8 0, .int .u8 0, .int .u8 0, .int .u8 0, .int .u8 0, .int .u8 0, .int .u8 0, .int .u8 0, .int .u8 0, .int .u8 0, .int .u8 0, .int .u8 0, .int .u8 0, .int .u8 0, .int .u16 0] : Array Value) 39)
      have BB := Blk.new Y1x0 39 (#[Value.int .u8 0, .bool false, .int .u8 0, .int .u8 0, .int .u8 0, .int .u8 0, .int .u8 0, .int .u8 0, .int .u8 0, .int .u8 0, .int .u8 0, .int .u8 0, .int .u8 0, .int .u8 0, .int .u8 0, .int .u8 0, .int .u8 0, .int .u8 0, .int .u16 0] : Array Value)
      have gl6 := E0.out.size
      obtain ⟨g6, hg6⟩ : ∃ g, g = Y1x0.heap.size := ⟨_, rfl⟩
      rw [← hg6] at BB gl6
      rw [← hg6]
      generalize Y1x0.alloc (.cells (#[Value.int .u8 0, .bool false, .int .u8 0, .int .u8 0, .int .u8 0, .int .u8 0, .int .u8 0, .int .u8 0, .int .u8 0, .int .u8 0, .int .u8 0, .int .u8 0, .int .u8 0, .int .u8 0, .int .u8 0, .int .u8 0, .int .u8 0, .int .u8 0, .int .u16 0] : Array Value) 39) = Y1x1 at BB hy ⊢
      clear hg6
      have E1 := Lib.hid (E0.out.trans (hy.mono (Nat.le_trans hlow E0.out.size)))
      have C1 := Lib.hid E1.out
      have G6 := Lib.hid (BB)
      clear BB
      clear hy E0
      refine hK.out _ _ C1.out (fun _ => ?_)
      clear hK KK
      clear C1
      try simp only [Act.put, tS1, tS2, tS3]
      refine wpAnyH_ready (rs := [1, 4]) (by kernel_rfl) (by simp) ?_
      refine AllReadyH.cons (o := { dst := some 9, op := Op.call { callee := Callee.value (Operand.func 17), args := #[Operand.tmp 8], argTypes := #[27] }, type := 39, pos := "law.go:73", after := #[{ on := 0, ground := Ground.data }], guard := none }) rfl (fun KK hK => ?_) ?_
      · go_simp
        refine (C1.out Y1x1).mono ?_
        rintro e Y1x2 ⟨rfl, hy⟩
        replace G6 := Lib.hid (G6.out.below hy G6.out.lt)
        have E2 := Lib.hid (E1.out.trans (hy.mono (Nat.le_trans hlow E1.out.size)))
        have C2 := Lib.hid E2.out
        clear hy E1
        refine hK.out _ _ C2.out (fun _ => ?_)
        clear hK KK
        clear C2
        try simp only [Act.put, tS1, tS2, tS3]
        refine wpAnyH_ready (rs := [3, 4]) (by kernel_rfl) (by simp) ?_
        refine AllReadyH.cons (o := { dst := some 11, op := Op.call { callee := Callee.value (Operand.func 17), args := #[Operand.tmp 10], argTypes := #[27] }, type := 39, pos := "law.go:73", after := #[{ on := 2, ground := Ground.data }, { on := 1, ground := Ground.chain }], guard := none }) rfl (fun KK hK => ?_) ?_
        · go_simp
          refine (C2.out Y1x2).mono ?_
          rintro e Y1x3 ⟨rfl, hy⟩
          replace G6 := Lib.hid (G6.out.below hy G6.out.lt)
          have E3 := Lib.hid (E2.out.trans (hy.mono (Nat.le_trans hlow E2.out.size)))
          have C3 := Lib.hid E3.out
          clear hy E2
          refine hK.out _ _ C3.out (fun _ => ?_)
          clear hK KK
          clear C3
          try simp only [Act.put, tS1, tS2, tS3]
          refine tkO 4 (fun KK hK => ?_)
          go_simp
          have hy := (Below.refl Y1x3.heap.size Y1x3).alloc (Nat.le_refl _) (.cells (#[Value.int .u8 0, .bool false, .int .u8 0, .int .u8 0, .int .u8 0, .int .u8 0, .int .u8 0, .int .u8 0, .int .u8 0, .int .u8 0, .int .u8 0, .int .u8 0, .int .u8 0, .int .u8 0, .int .u8 0, .int .u8 0, .int .u8 0, .int .u8 0, .int .u16 0] : Array Value) 39)
          have BB := Blk.new Y1x3 39 (#[Value.int .u8 0, .bool false, .int .u8 0, .int .u8 0, .int .u8 0, .int .u8 0, .int .u8 0, .int .u8 0, .int .u8 0, .int .u8 0, .int .u8 0, .int .u8 0, .int .u8 0, .int .u8 0, .int .u8 0, .int .u8 0, .int .u8 0, .int .u8 0, .int .u16 0] : Array Value)
          have gl5 := E3.out.size
          have d56 := Nat.ne_of_lt G6.out.lt
          obtain ⟨g5, hg5⟩ : ∃ g, g = Y1x3.heap.size := ⟨_, rfl⟩
          rw [← hg5] at BB gl5 d56
          rw [← hg5]
          generalize Y1x3.alloc (.cells (#[Value.int .u8 0, .bool false, .int .u8 0, .int .u8 0, .int .u8 0, .int .u8 0, .int .u8 0, .int .u8 0, .int .u8 0, .int .u8 0, .int .u8 0, .int .u8 0, .int .u8 0, .int .u8 0, .int .u8 0, .int .u8 0, .int .u8 0, .int .u8 0, .int .u16 0] : Array Value) 39) = Y1x4 at BB hy ⊢
          clear hg5
          replace G6 := Lib.hid (G6.out.below hy G6.out.lt)
          have E4 := Lib.hid (E3.out.trans (hy.mono (Nat.le_trans hlow E3.out.size)))
          have C4 := Lib.hid E4.out
          have G5 := Lib.hid (BB)
          clear BB
          clear hy E3
          refine hK.out _ _ C4.out (fun _ => ?_)
          clear hK KK
          clear C4
          try simp only [Act.put, tS1, tS2, tS3]
          refine tkO 6 (fun KK hK => ?_)
          rw [if_pos (by rfl)]
          refine wp_blk_store 39 (.tmp 5) (.tmp 9) rfl va rfl rfl G5.out YV.out QV.out AV.out ?_
          intro Y1x5 hA hF hB
          have E5 := Lib.hid (E4.out.trans (hB _ gl5))
          replace G6 := Lib.hid (show Blk Y1x5 g6 39 (#[Value.int .u8 0, .bool false, .int .u8 0, .int .u8 0, .int .u8 0, .int .u8 0, .int .u8 0, .int .u8 0, .int .u8 0, .int .u8 0, .int .u8 0, .int .u8 0, .int .u8 0, .int .u8 0, .int .u8 0, .int .u8 0, .int .u8 0, .int .u8 0, .int .u16 0] : Array Value) from (hF _ (by omega)).trans G6.out)
          replace G5 := Lib.hid (show Blk Y1x5 g5 39 va from hA)
          clear hA hF hB E4
          refine hK.out _ _ E5.out (fun _ => ?_)
          clear hK KK
          simp only [Act.put]
          refine tkO 7 (fun KK hK => ?_)
          rw [if_pos (by rfl)]
          refine wp_blk_store 39 (.tmp 6) (.tmp 11) rfl vb rfl rfl G6.out YW.out QW.out AW.out ?_
          intro Y1x6 hA hF hB
          have E6 := Lib.hid (E5.out.trans (hB _ gl6))
          replace G5 := Lib.hid (show Blk Y1x6 g5 39 va from (hF _ (by omega)).trans G5.out)
          replace G6 := Lib.hid (show Blk Y1x6 g6 39 vb from hA)
          clear hA hF hB E5
          refine hK.out _ _ E6.out (fun _ => ?_)
          clear hK KK
          refine wpAnyH_done (by kernel_rfl) ?_ _
          go_wp2
          go_meet
          exact ⟨_, _, rfl, rfl, G5.out, G6.out, N.out.below E6.out qN, Nb.out.below E6.out qNb, K.out.trans (E6.out.mono qK)⟩
        refine AllReadyH.cons (o := { dst := some 5, op := Op.alloc 39, type := 0, pos := "law.go:73", after := #[], guard := none }) rfl (fun KK hK => ?_) AllReadyH.nil
        · go_simp
          have hy := (Below.refl Y1x2.heap.size Y1x2).alloc (Nat.le_refl _) (.cells (#[Value.int .u8 0, .bool false, .int .u8 0, .int .u8 0, .int .u8 0, .int .u8 0, .int .u8 0, .int .u8 0, .int .u8 0, .int .u8 0, .int .u8 0, .int .u8 0, .int .u8 0, .int .u8 0, .int .u8 0, .int .u8 0, .int .u8 0, .int .u8 0, .int .u16 0] : Array Value) 39)
          have BB := Blk.new Y1x2 39 (#[Value.int .u8 0, .bool false, .int .u8 0, .int .u8 0, .int .u8 0, .int .u8 0, .int .u8 0, .int .u8 0, .int .u8 0, .int .u8 0, .int .u8 0, .int .u8 0, .int .u8 0, .int .u8 0, .int .u8 0, .int .u8 0, .int .u8 0, .int .u8 0, .int .u16 0] : Array Value)
          have gl5 := E2.out.size
          have d56 := Nat.ne_of_lt G6.out.lt
          obtain ⟨g5, hg5⟩ : ∃ g, g = Y1x2.heap.size := ⟨_, rfl⟩
          rw [← hg5] at BB gl5 d56
          rw [← hg5]
          generalize Y1x2.alloc (.cells (#[Value.int .u8 0, .bool false, .int .u8 0, .int .u8 0, .int .u8 0, .int .u8 0, .int .u8 0, .int .u8 0, .int .u8 0, .int .u8 0, .int .u8 0, .int .u8 0, .int .u8 0, .int .u8 0, .int .u8 0, .int .u8 0, .int .u8 0, .int .u8 0, .int .u16 0] : Array Value) 39) = Y1x3 at BB hy ⊢
          clear hg5
          replace G6 := Lib.hid (G6.out.below hy G6.out.lt)
          have E3 := Lib.hid (E2.out.trans (hy.mono (Nat.le_trans hlow E2.out.size)))
          have C3 := Lib.hid E3.out
          have G5 := Lib.hid (BB)
          clear BB
          clear hy E2
          refine hK.out _ _ C3.out (fun _ => ?_)
          clear hK KK
          clear C3
          try simp only [Act.put, tS1, tS2, tS3]
          refine tkO 3 (fun KK hK => ?_)
          go_simp
          refine (C2.out Y1x3).mono ?_
          rintro e Y1x4 ⟨rfl, hy⟩
          replace G6 := Lib.hid (G6.out.below hy G6.out.lt)
          replace G5 := Lib.hid (G5.out.below hy G5.out.lt)
          have E4 := Lib.hid (E3.out.trans (hy.mono (Nat.le_trans hlow E3.out.size)))
          have C4 := Lib.hid E4.out
          clear hy E3
          refine hK.out _ _ C4.out (fun _ => ?_)
          clear hK KK
          clear C4
          try simp only [Act.put, tS1, tS2, tS3]
          refine tkO 6 (fun KK hK => ?_)
          rw [if_pos (by rfl)]
          refine wp_blk_store 39 (.tmp 5) (.tmp 9) rfl va rfl rfl G5.out YV.out QV.out AV.out ?_
          intro Y1x5 hA hF hB
          have E5 := Lib.hid (E4.out.trans (hB _ gl5))
          replace G6 := Lib.hid (show Blk Y1x5 g6 39 (#[Value.int .u8 0, .bool false, .int .u8 0, .int .u8 0, .int .u8 0, .int .u8 0, .int .u8 0, .int .u8 0, .int .u8 0, .int .u8 0, .int .u8 0, .int .u8 0, .int .u8 0, .int .u8 0, .int .u8 0, .int .u8 0, .int .u8 0, .int .u8 0, .int .u16 0] : Array Value) from (hF _ (by omega)).trans G6.out)
          replace G5 := Lib.hid (show Blk Y1x5 g5 39 va from hA)
          clear hA hF hB E4
          refine hK.out _ _ E5.out (fun _ => ?_)
          clear hK KK
          simp only [Act.put]
          refine tkO 7 (fun KK hK => ?_)
          rw [if_pos (by rfl)]
          refine wp_blk_store 39 (.tmp 6) (.tmp 11) rfl vb rfl rfl G6.out YW.out QW.out AW.out ?_
          intro Y1x6 hA hF hB
          have E6 := Lib.hid (E5.out.trans (hB _ gl6))
          replace G5 := Lib.hid (show Blk Y1x6 g5 39 va from (hF _ (by omega)).trans G5.out)
          replace G6 := Lib.hid (show Blk Y1x6 g6 39 vb from hA)
          clear hA hF hB E5
          refine hK.out _ _ E6.out (fun _ => ?_)
          clear hK KK
          refine wpAnyH_done (by kernel_rfl) ?_ _
          go_wp2
          go_meet
          exact ⟨_, _, rfl, rfl, G5.out, G6.out, N.out.below E6.out qN, Nb.out.below E6.out qNb, K.out.trans (E6.out.mono qK)⟩
      refine AllReadyH.cons (o := { dst := some 5, op := Op.alloc 39, type := 0, pos := "law.go:73", after := #[], guard := none }) rfl (fun KK hK => ?_) AllReadyH.nil
      · go_simp
        have hy := (Below.refl Y1x1.heap.size Y1x1).alloc (Nat.le_refl _) (.cells (#[Value.int .u8 0, .bool false, .int .u8 0, .int .u8 0, .int .u8 0, .int .u8 0, .int .u8 0, .int .u8 0, .int .u8 0, .int .u8 0, .int .u8 0, .int .u8 0, .int .u8 0, .int .u8 0, .int .u8 0, .int .u8 0, .int .u8 0, .int .u8 0, .int .u16 0] : Array Value) 39)
        have BB := Blk.new Y1x1 39 (#[Value.int .u8 0, .bool false, .int .u8 0, .int .u8 0, .int .u8 0, .int .u8 0, .int .u8 0, .int .u8 0, .int .u8 0, .int .u8 0, .int .u8 0, .int .u8 0, .int .u8 0, .int .u8 0, .int .u8 0, .int .u8 0, .int .u8 0, .int .u8 0, .int .u16 0] : Array Value)
        have gl5 := E1.out.size
        have d56 := Nat.ne_of_lt G6.out.lt
        obtain ⟨g5, hg5⟩ : ∃ g, g = Y1x1.heap.size := ⟨_, rfl⟩
        rw [← hg5] at BB gl5 d56
        rw [← hg5]
        generalize Y1x1.alloc (.cells (#[Value.int .u8 0, .bool false, .int .u8 0, .int .u8 0, .int .u8 0, .int .u8 0, .int .u8 0, .int .u8 0, .int .u8 0, .int .u8 0, .int .u8 0, .int .u8 0, .int .u8 0, .int .u8 0, .int .u8 0, .int .u8 0, .int .u8 0, .int .u8 0, .int .u16 0] : Array Value) 39) = Y1x2 at BB hy ⊢
        clear hg5
        replace G6 := Lib.hid (G6.out.below hy G6.out.lt)
        have E2 := Lib.hid (E1.out.trans (hy.mono (Nat.le_trans hlow E1.out.size)))
        have C2 := Lib.hid E2.out
        have G5 := Lib.hid (BB)
        clear BB
        clear hy E1
        refine hK.out _ _ C2.out (fun _ => ?_)
        clear hK KK
        clear C2
        try simp only [Act.put, tS1, tS2, tS3]
        refine tkO 1 (fun KK hK => ?_)
        go_simp
        refine (C1.out Y1x2).mono ?_
        rintro e Y1x3 ⟨rfl, hy⟩
        replace G6 := Lib.hid (G6.out.below hy G6.out.lt)
        replace G5 := Lib.hid (G5.out.below hy G5.out.lt)
        have E3 := Lib.hid (E2.out.trans (hy.mono (Nat.le_trans hlow E2.out.size)))
        have C3 := Lib.hid E3.out
        clear hy E2
        refine hK.out _ _ C3.out (fun _ => ?_)
        clear hK KK
        clear C3
        try simp only [Act.put, tS1, tS2, tS3]
        refine tkO 3 (fun KK hK => ?_)
        go_simp
        refine (C2.out Y1x3).mono ?_
        rintro e Y1x4 ⟨rfl, hy⟩
        replace G6 := Lib.hid (G6.out.below hy G6.out.lt)
        replace G5 := Lib.hid (G5.out.below hy G5.out.lt)
        have E4 := Lib.hid (E3.out.trans (hy.mono (Nat.le_trans hlow E3.out.size)))
        have C4 := Lib.hid E4.out
        clear hy E3
        refine hK.out _ _ C4.out (fun _ => ?_)
        clear hK KK
        clear C4
        try simp only [Act.put, tS1, tS2, tS3]
        refine tkO 6 (fun KK hK => ?_)
        rw [if_pos (by rfl)]
        refine wp_blk_store 39 (.tmp 5) (.tmp 9) rfl va rfl rfl G5.out YV.out QV.out AV.out ?_
        intro Y1x5 hA hF hB
        have E5 := Lib.hid (E4.out.trans (hB _ gl5))
        replace G6 := Lib.hid (show Blk Y1x5 g6 39 (#[Value.int .u8 0, .bool false, .int .u8 0, .int .u8 0, .int .u8 0, .int .u8 0, .int .u8 0, .int .u8 0, .int .u8 0, .int .u8 0, .int .u8 0, .int .u8 0, .int .u8 0, .int .u8 0, .int .u8 0, .int .u8 0, .int .u8 0, .int .u8 0, .int .u16 0] : Array Value) from (hF _ (by omega)).trans G6.out)
        replace G5 := Lib.hid (show Blk Y1x5 g5 39 va from hA)
        clear hA hF hB E4
        refine hK.out _ _ E5.out (fun _ => ?_)
        clear hK KK
        simp only [Act.put]
        refine tkO 7 (fun KK hK => ?_)
        rw [if_pos (by rfl)]
        refine wp_blk_store 39 (.tmp 6) (.tmp 11) rfl vb rfl rfl G6.out YW.out QW.out AW.out ?_
        intro Y1x6 hA hF hB
        have E6 := Lib.hid (E5.out.trans (hB _ gl6))
        replace G5 := Lib.hid (show Blk Y1x6 g5 39 va from (hF _ (by omega)).trans G5.out)
        replace G6 := Lib.hid (show Blk Y1x6 g6 39 vb from hA)
        clear hA hF hB E5
        refine hK.out _ _ E6.out (fun _ => ?_)
        clear hK KK
        refine wpAnyH_done (by kernel_rfl) ?_ _
        go_wp2
        go_meet
        exact ⟨_, _, rfl, rfl, G5.out, G6.out, N.out.below E6.out qN, Nb.out.below E6.out qNb, K.out.trans (E6.out.mono qK)⟩
  case rest =>
    obtain ⟨g5, g6, rfl, rfl, h5, h6, hN, hNb, hK⟩ := hcut
    clear K N Nb hlow qK qN qNb
    have G5 := Lib.hid h5
    have G6 := Lib.hid h6
    have N := Lib.hid hN
    have Nb := Lib.hid hNb
    have K := Lib.hid hK
    clear h5 h6 hN hNb hK
    rcases HC.out with ⟨e1, ev⟩ | ⟨rfl, ed, ev⟩ | ⟨rfl, rfl, e3, ev⟩ | ⟨rfl, rfl, rfl, rfl⟩
    · have f1 : ((p : Int) == (pb : Int)) = false := by rw [beq_eq_false_iff_ne]; omega
      have f2 : (p == pb) = false := by rw [beq_eq_false_iff_ne]; exact e1
      have f3 : decide (p = pb) = false := decide_eq_false e1
      clear e1 HC
      have eva := EVa.out
      have eda := EDa.out
      have L1 := (N.out.cell 0).trans G0.out
      have L2 := (Nb.out.cell 0).trans G0b.out
      have L3 : (loadVar 39 ⟨g5, 0, none⟩).run Tryd.prog wc = .ok (.agg va) wc := run_blk_load (P := Tryd.prog) 39 (g5) _ G5.out Tryd.underlying39 rfl QV.out
      replace L3 := Lib.hid L3
      have L4 : (loadVar 39 ⟨g6, 0, none⟩).run Tryd.prog wc = .ok (.agg vb) wc := run_blk_load (P := Tryd.prog) 39 (g6) _ G6.out Tryd.underlying39 rfl QW.out
      replace L4 := Lib.hid L4
      have L5 := (G5.out.cell 0).trans VG0.out
      have L6 := (N.out.cell 0).trans G0.out
      have L7 : (loadVar 24 ⟨g5, 1, none⟩).run Tryd.prog wc = .ok (.agg D) wc := by have h := run_part_load (P := Tryd.prog) 24 1 D.toList _ G5.out VP1.out Tryd.underlying24 rfl ID.out; rwa [Array.toArray_toList] at h
      replace L7 := Lib.hid L7
      have L8 : (loadVar 24 ⟨w.heap.size, 18, none⟩).run Tryd.prog wc = .ok (.agg D) wc := by have h := run_part_load (P := Tryd.prog) 24 18 D.toList _ N.out KP2.out Tryd.underlying24 rfl ID.out; rwa [Array.toArray_toList] at h
      replace L8 := Lib.hid L8
      have L9 := (G5.out.cell 18).trans VG18.out
      have L10 := (N.out.cell 36).trans G36.out
      go_wp2_with (first | ((with_reducible refine wpList_load_want (op := ⟨some 31, .load 39 (.tmp 5), _, _, _, _⟩) ?wg3 39 (.tmp 5) ?wo3 ⟨g5, 0, none⟩ ?wx3 (.agg va) L3.out ?_); (case wg3 => rfl); (case wo3 => rfl); (case wx3 => rfl)) | ((with_reducible refine wpList_load_want (op := ⟨some 32, .load 39 (.tmp 6), _, _, _, _⟩) ?wg4 39 (.tmp 6) ?wo4 ⟨g6, 0, none⟩ ?wx4 (.agg vb) L4.out ?_); (case wg4 => rfl); (case wo4 => rfl); (case wx4 => rfl)) | ((with_reducible refine wpList_load_want (op := ⟨some 45, .load 24 (.tmp 44), _, _, _, _⟩) ?wg7 24 (.tmp 44) ?wo7 ⟨g5, 1, none⟩ ?wx7 (.agg D) L7.out ?_); (case wg7 => rfl); (case wo7 => rfl); (case wx7 => rfl)) | ((with_reducible refine wpList_load_want (op := ⟨some 47, .load 24 (.tmp 46), _, _, _, _⟩) ?wg8 24 (.tmp 46) ?wo8 ⟨w.heap.size, 18, none⟩ ?wx8 (.agg D) L8.out ?_); (case wg8 => rfl); (case wo8 => rfl); (case wx8 => rfl)))
      clear L1 L2 L3 L4 L5 L6 L7 L8 L9 L10
      refine (awake_any wc (HE.out.below K.out)).mono ?_
      rintro e V2 ⟨rfl, hy⟩
      replace G5 := Lib.hid (G5.out.below hy G5.out.lt)
      replace G6 := Lib.hid (G6.out.below hy G6.out.lt)
      replace N := Lib.hid (N.out.below hy N.out.lt)
      replace Nb := Lib.hid (Nb.out.below hy Nb.out.lt)
      replace K := Lib.hid (K.out.trans (hy.mono K.out.size))
      clear hy
      go_wp2
      go_ret
      exact ⟨rfl, K.out⟩
    · clear HC
      have eva := EVa.out
      have eda := EDa.out
      have L11 := (N.out.cell 0).trans G0.out
      have L12 := (Nb.out.cell 0).trans G0b.out
      have L13 : (loadVar 24 ⟨w.heap.size, 18, none⟩).run Tryd.prog wc = .ok (.agg D) wc := by have h := run_part_load (P := Tryd.prog) 24 18 D.toList _ N.out KP2.out Tryd.underlying24 rfl ID.out; rwa [Array.toArray_toList] at h
      replace L13 := Lib.hid L13
      have L14 : (loadVar 24 ⟨w.heap.size + 1, 18, none⟩).run Tryd.prog wc = .ok (.agg Db) wc := by have h := run_part_load (P := Tryd.prog) 24 18 Db.toList _ Nb.out KP2b.out Tryd.underlying24 rfl IDb.out; rwa [Array.toArray_toList] at h
      replace L14 := Lib.hid L14
      have L15 : (loadVar 39 ⟨g5, 0, none⟩).run Tryd.prog wc = .ok (.agg va) wc := run_blk_load (P := Tryd.prog) 39 (g5) _ G5.out Tryd.underlying39 rfl QV.out
      replace L15 := Lib.hid L15
      have L16 : (loadVar 39 ⟨g6, 0, none⟩).run Tryd.prog wc = .ok (.agg vb) wc := run_blk_load (P := Tryd.prog) 39 (g6) _ G6.out Tryd.underlying39 rfl QW.out
      replace L16 := Lib.hid L16
      have L17 := (G5.out.cell 0).trans VG0.out
      have L18 := (N.out.cell 0).trans G0.out
      have L19 : (loadVar 24 ⟨g5, 1, none⟩).run Tryd.prog wc = .ok (.agg D) wc := by have h := run_part_load (P := Tryd.prog) 24 1 D.toList _ G5.out VP1.out Tryd.underlying24 rfl ID.out; rwa [Array.toArray_toList] at h
      replace L19 := Lib.hid L19
      have L20 : (loadVar 24 ⟨w.heap.size, 18, none⟩).run Tryd.prog wc = .ok (.agg D) wc := by have h := run_part_load (P := Tryd.prog) 24 18 D.toList _ N.out KP2.out Tryd.underlying24 rfl ID.out; rwa [Array.toArray_toList] at h
      replace L20 := Lib.hid L20
      have L21 := (G5.out.cell 18).trans VG18.out
      have L22 := (N.out.cell 36).trans G36.out
      go_wp2_with (first | ((with_reducible refine wpList_load_want (op := ⟨some 19, .load 24 (.tmp 18), _, _, _, _⟩) ?wg13 24 (.tmp 18) ?wo13 ⟨w.heap.size, 18, none⟩ ?wx13 (.agg D) L13.out ?_); (case wg13 => rfl); (case wo13 => rfl); (case wx13 => rfl)) | ((with_reducible refine wpList_load_want (op := ⟨some 21, .load 24 (.tmp 20), _, _, _, _⟩) ?wg14 24 (.tmp 20) ?wo14 ⟨w.heap.size + 1, 18, none⟩ ?wx14 (.agg Db) L14.out ?_); (case wg14 => rfl); (case wo14 => rfl); (case wx14 => rfl)) | ((with_reducible refine wpList_load_want (op := ⟨some 31, .load 39 (.tmp 5), _, _, _, _⟩) ?wg15 39 (.tmp 5) ?wo15 ⟨g5, 0, none⟩ ?wx15 (.agg va) L15.out ?_); (case wg15 => rfl); (case wo15 => rfl); (case wx15 => rfl)) | ((with_reducible refine wpList_load_want (op := ⟨some 32, .load 39 (.tmp 6), _, _, _, _⟩) ?wg16 39 (.tmp 6) ?wo16 ⟨g6, 0, none⟩ ?wx16 (.agg vb) L16.out ?_); (case wg16 => rfl); (case wo16 => rfl); (case wx16 => rfl)) | ((with_reducible refine wpList_load_want (op := ⟨some 45, .load 24 (.tmp 44), _, _, _, _⟩) ?wg19 24 (.tmp 44) ?wo19 ⟨g5, 1, none⟩ ?wx19 (.agg D) L19.out ?_); (case wg19 => rfl); (case wo19 => rfl); (case wx19 => rfl)) | ((with_reducible refine wpList_load_want (op := ⟨some 47, .load 24 (.tmp 46), _, _, _, _⟩) ?wg20 24 (.tmp 46) ?wo20 ⟨w.heap.size, 18, none⟩ ?wx20 (.agg D) L20.out ?_); (case wg20 => rfl); (case wo20 => rfl); (case wx20 => rfl)))
      clear L11 L12 L13 L14 L15 L16 L17 L18 L19 L20 L21 L22
      refine (awake_any wc (HE.out.below K.out)).mono ?_
      rintro e V2 ⟨rfl, hy⟩
      replace G5 := Lib.hid (G5.out.below hy G5.out.lt)
      replace G6 := Lib.hid (G6.out.below hy G6.out.lt)
      replace N := Lib.hid (N.out.below hy N.out.lt)
      replace Nb := Lib.hid (Nb.out.below hy Nb.out.lt)
      replace K := Lib.hid (K.out.trans (hy.mono K.out.size))
      clear hy
      go_wp2
      go_ret
      exact ⟨rfl, K.out⟩
    · have f1 : ((dp : Int) == (dpb : Int)) = false := by rw [beq_eq_false_iff_ne]; omega
      have f2 : (dp == dpb) = false := by rw [beq_eq_false_iff_ne]; exact e3
      have f3 : decide (dp = dpb) = false := decide_eq_false e3
      clear e3 HC
      have eva := EVa.out
      have eda := EDa.out
      have L23 := (N.out.cell 0).trans G0.out
      have L24 := (Nb.out.cell 0).trans G0b.out
      have L25 : (loadVar 24 ⟨w.heap.size, 18, none⟩).run Tryd.prog wc = .ok (.agg D) wc := by have h := run_part_load (P := Tryd.prog) 24 18 D.toList _ N.out KP2.out Tryd.underlying24 rfl ID.out; rwa [Array.toArray_toList] at h
      replace L25 := Lib.hid L25
      have L26 : (loadVar 24 ⟨w.heap.size + 1, 18, none⟩).run Tryd.prog wc = .ok (.agg D) wc := by have h := run_part_load (P := Tryd.prog) 24 18 D.toList _ Nb.out KP2b.out Tryd.underlying24 rfl IDb.out; rwa [Array.toArray_toList] at h
      replace L26 := Lib.hid L26
      have L27 := (N.out.cell 36).trans G36.out
      have L28 := (Nb.out.cell 36).trans G36b.out
      have L29 : (loadVar 39 ⟨g5, 0, none⟩).run Tryd.prog wc = .ok (.agg va) wc := run_blk_load (P := Tryd.prog) 39 (g5) _ G5.out Tryd.underlying39 rfl QV.out
      replace L29 := Lib.hid L29
      have L30 : (loadVar 39 ⟨g6, 0, none⟩).run Tryd.prog wc = .ok (.agg vb) wc := run_blk_load (P := Tryd.prog) 39 (g6) _ G6.out Tryd.underlying39 rfl QW.out
      replace L30 := Lib.hid L30
      have L31 := (G5.out.cell 0).trans VG0.out
      have L32 := (N.out.cell 0).trans G0.out
      have L33 : (loadVar 24 ⟨g5, 1, none⟩).run Tryd.prog wc = .ok (.agg D) wc := by have h := run_part_load (P := Tryd.prog) 24 1 D.toList _ G5.out VP1.out Tryd.underlying24 rfl ID.out; rwa [Array.toArray_toList] at h
      replace L33 := Lib.hid L33
      have L34 : (loadVar 24 ⟨w.heap.size, 18, none⟩).run Tryd.prog wc = .ok (.agg D) wc := by have h := run_part_load (P := Tryd.prog) 24 18 D.toList _ N.out KP2.out Tryd.underlying24 rfl ID.out; rwa [Array.toArray_toList] at h
      replace L34 := Lib.hid L34
      have L35 := (G5.out.cell 18).trans VG18.out
      have L36 := (N.out.cell 36).trans G36.out
      go_wp2_with (first | ((with_reducible refine wpList_load_want (op := ⟨some 19, .load 24 (.tmp 18), _, _, _, _⟩) ?wg25 24 (.tmp 18) ?wo25 ⟨w.heap.size, 18, none⟩ ?wx25 (.agg D) L25.out ?_); (case wg25 => rfl); (case wo25 => rfl); (case wx25 => rfl)) | ((with_reducible refine wpList_load_want (op := ⟨some 21, .load 24 (.tmp 20), _, _, _, _⟩) ?wg26 24 (.tmp 20) ?wo26 ⟨w.heap.size + 1, 18, none⟩ ?wx26 (.agg D) L26.out ?_); (case wg26 => rfl); (case wo26 => rfl); (case wx26 => rfl)) | ((with_reducible refine wpList_load_want (op := ⟨some 31, .load 39 (.tmp 5), _, _, _, _⟩) ?wg29 39 (.tmp 5) ?wo29 ⟨g5, 0, none⟩ ?wx29 (.agg va) L29.out ?_); (case wg29 => rfl); (case wo29 => rfl); (case wx29 => rfl)) | ((with_reducible refine wpList_load_want (op := ⟨some 32, .load 39 (.tmp 6), _, _, _, _⟩) ?wg30 39 (.tmp 6) ?wo30 ⟨g6, 0, none⟩ ?wx30 (.agg vb) L30.out ?_); (case wg30 => rfl); (case wo30 => rfl); (case wx30 => rfl)) | ((with_reducible refine wpList_load_want (op := ⟨some 45, .load 24 (.tmp 44), _, _, _, _⟩) ?wg33 24 (.tmp 44) ?wo33 ⟨g5, 1, none⟩ ?wx33 (.agg D) L33.out ?_); (case wg33 => rfl); (case wo33 => rfl); (case wx33 => rfl)) | ((with_reducible refine wpList_load_want (op := ⟨some 47, .load 24 (.tmp 46), _, _, _, _⟩) ?wg34 24 (.tmp 46) ?wo34 ⟨w.heap.size, 18, none⟩ ?wx34 (.agg D) L34.out ?_); (case wg34 => rfl); (case wo34 => rfl); (case wx34 => rfl)))
      clear L23 L24 L25 L26 L27 L28 L29 L30 L31 L32 L33 L34 L35 L36
      refine (awake_any wc (HE.out.below K.out)).mono ?_
      rintro e V2 ⟨rfl, hy⟩
      replace G5 := Lib.hid (G5.out.below hy G5.out.lt)
      replace G6 := Lib.hid (G6.out.below hy G6.out.lt)
      replace N := Lib.hid (N.out.below hy N.out.lt)
      replace Nb := Lib.hid (Nb.out.below hy Nb.out.lt)
      replace K := Lib.hid (K.out.trans (hy.mono K.out.size))
      clear hy
      go_wp2
      go_ret
      exact ⟨rfl, K.out⟩
    · clear HC
      have eva := EVa.out
      have eda := EDa.out
      have L37 := (N.out.cell 0).trans G0.out
      have L38 := (Nb.out.cell 0).trans G0b.out
      have L39 : (loadVar 24 ⟨w.heap.size, 18, none⟩).run Tryd.prog wc = .ok (.agg D) wc := by have h := run_part_load (P := Tryd.prog) 24 18 D.toList _ N.out KP2.out Tryd.underlying24 rfl ID.out; rwa [Array.toArray_toList] at h
      replace L39 := Lib.hid L39
      have L40 : (loadVar 24 ⟨w.heap.size + 1, 18, none⟩).run Tryd.prog wc = .ok (.agg D) wc := by have h := run_part_load (P := Tryd.prog) 24 18 D.toList _ Nb.out KP2b.out Tryd.underlying24 rfl IDb.out; rwa [Array.toArray_toList] at h
      replace L40 := Lib.hid L40
      have L41 := (N.out.cell 36).trans G36.out
      have L42 := (Nb.out.cell 36).trans G36b.out
      have L43 : (loadVar 39 ⟨g5, 0, none⟩).run Tryd.prog wc = .ok (.agg va) wc := run_blk_load (P := Tryd.prog) 39 (g5) _ G5.out Tryd.underlying39 rfl QV.out
      replace L43 := Lib.hid L43
      have L44 : (loadVar 39 ⟨g6, 0, none⟩).run Tryd.prog wc = .ok (.agg va) wc := run_blk_load (P := Tryd.prog) 39 (g6) _ G6.out Tryd.underlying39 rfl QW.out
      replace L44 := Lib.hid L44
      have L45 := (G5.out.cell 0).trans VG0.out
      have L46 := (N.out.cell 0).trans G0.out
      have L47 : (loadVar 24 ⟨g5, 1, none⟩).run Tryd.prog wc = .ok (.agg D) wc := by have h := run_part_load (P := Tryd.prog) 24 1 D.toList _ G5.out VP1.out Tryd.underlying24 rfl ID.out; rwa [Array.toArray_toList] at h
      replace L47 := Lib.hid L47
      have L48 : (loadVar 24 ⟨w.heap.size, 18, none⟩).run Tryd.prog wc = .ok (.agg D) wc := by have h := run_part_load (P := Tryd.prog) 24 18 D.toList _ N.out KP2.out Tryd.underlying24 rfl ID.out; rwa [Array.toArray_toList] at h
      replace L48 := Lib.hid L48
      have L49 := (G5.out.cell 18).trans VG18.out
      have L50 := (N.out.cell 36).trans G36.out
      go_wp2_with (first | ((with_reducible refine wpList_load_want (op := ⟨some 19, .load 24 (.tmp 18), _, _, _, _⟩) ?wg39 24 (.tmp 18) ?wo39 ⟨w.heap.size, 18, none⟩ ?wx39 (.agg D) L39.out ?_); (case wg39 => rfl); (case wo39 => rfl); (case wx39 => rfl)) | ((with_reducible refine wpList_load_want (op := ⟨some 21, .load 24 (.tmp 20), _, _, _, _⟩) ?wg40 24 (.tmp 20) ?wo40 ⟨w.heap.size + 1, 18, none⟩ ?wx40 (.agg D) L40.out ?_); (case wg40 => rfl); (case wo40 => rfl); (case wx40 => rfl)) | ((with_reducible refine wpList_load_want (op := ⟨some 31, .load 39 (.tmp 5), _, _, _, _⟩) ?wg43 39 (.tmp 5) ?wo43 ⟨g5, 0, none⟩ ?wx43 (.agg va) L43.out ?_); (case wg43 => rfl); (case wo43 => rfl); (case wx43 => rfl)) | ((with_reducible refine wpList_load_want (op := ⟨some 32, .load 39 (.tmp 6), _, _, _, _⟩) ?wg44 39 (.tmp 6) ?wo44 ⟨g6, 0, none⟩ ?wx44 (.agg va) L44.out ?_); (case wg44 => rfl); (case wo44 => rfl); (case wx44 => rfl)) | ((with_reducible refine wpList_load_want (op := ⟨some 45, .load 24 (.tmp 44), _, _, _, _⟩) ?wg47 24 (.tmp 44) ?wo47 ⟨g5, 1, none⟩ ?wx47 (.agg D) L47.out ?_); (case wg47 => rfl); (case wo47 => rfl); (case wx47 => rfl)) | ((with_reducible refine wpList_load_want (op := ⟨some 47, .load 24 (.tmp 46), _, _, _, _⟩) ?wg48 24 (.tmp 46) ?wo48 ⟨w.heap.size, 18, none⟩ ?wx48 (.agg D) L48.out ?_); (case wg48 => rfl); (case wo48 => rfl); (case wx48 => rfl)))
      clear L37 L38 L39 L40 L41 L42 L43 L44 L45 L46 L47 L48 L49 L50
      refine (awake_any wc (HE.out.below K.out)).mono ?_
      rintro e V2 ⟨rfl, hy⟩
      replace G5 := Lib.hid (G5.out.below hy G5.out.lt)
      replace G6 := Lib.hid (G6.out.below hy G6.out.lt)
      replace N := Lib.hid (N.out.below hy N.out.lt)
      replace Nb := Lib.hid (Nb.out.below hy Nb.out.lt)
      replace K := Lib.hid (K.out.trans (hy.mono K.out.size))
      clear hy
      go_wp2
      go_ret
      exact ⟨rfl, K.out⟩
end Go.Proofs.YthkaadcgiplolaaDoor
