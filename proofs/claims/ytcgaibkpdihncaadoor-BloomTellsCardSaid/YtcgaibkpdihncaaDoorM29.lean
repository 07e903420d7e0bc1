/- Texts that the walks of this seat lean on, put together. -/
import Derived.Test.YtcgaibkpdihncaaDoorTk
import Derived.Test.YtcgaibkpdihncaaDoorM20
import Derived.Test.YtcgaibkpdihncaaDoorM22
namespace Go.Proofs.YtcgaibkpdihncaaDoor
open Go.RowKit
set_option maxRecDepth 100000 in
set_option maxHeartbeats 4000000 in
theorem rbytes_no (k : Fl) (hk : k.Fit) (hv : vK k = false)  (w : World) :
    Calls Tryd.prog 49 #[.agg k.cs] w fun e w' => ∃ x, e = .returned x ∧ Rd w' x (nus .u8 (bK k)) ∧ Below w.heap.size w w' := by
  have K := Lib.hid (Below.refl w.heap.size w)
  have CV := Lib.hid (fun W => rvalid_any k hk W)
  rw [hv] at CV
  rw [bK_no hv]
  obtain ⟨a0, a1, a18, a35, a36⟩ := fl_get k hk
  have G0 := Lib.hid a0
  have G1 := Lib.hid a1
  have G18 := Lib.hid a18
  have G35 := Lib.hid a35
  have G36 := Lib.hid a36
  have KP1 := Lib.hid (fl_src k)
  have KP2 := Lib.hid (fl_dst k hk)
  have IS := Lib.hid (fl_is k hk)
  have ID := Lib.hid (fl_id k hk)
  have IK := Lib.hid (fl_ik k hk)
  clear a0 a1 a18 a35 a36
  generalize k.cs = kc at *
  generalize cellsA k.sv k.S = S at *
  generalize cellsA k.dv k.D = D at *
  generalize k.p = p at *
  generalize k.sv = sv at *
  generalize k.dv = dv at *
  generalize k.sp = sp at *
  generalize k.dp = dp at *
  clear hk hv
  go_enter Tryd.func49, Tryd.ntmps49
  have hal := (Below.refl w.heap.size w).alloc (Nat.le_refl _) (.cells kc 43)
  replace K := Lib.hid (K.out.trans (hal.mono K.out.size))
  have N := Lib.hid (Blk.new w 43 kc)
  clear hal
  have L1 : (loadVar 43 ⟨w.heap.size, 0, none⟩).run Tryd.prog (w.alloc (.cells kc 43)) = .ok (.agg kc) (w.alloc (.cells kc 43)) := run_blk_load (P := Tryd.prog) 43 (w.heap.size) _ N.out Tryd.underlying43 rfl IK.out
  replace L1 := Lib.hid L1
  go_wp2_with (((with_reducible refine wpList_load_want (op := ⟨some 5, .load 43 (.tmp 1), _, _, _, _⟩) ?wg1 43 (.tmp 1) ?wo1 ⟨w.heap.size, 0, none⟩ ?wx1 (.agg kc) L1.out ?_); (case wg1 => rfl); (case wo1 => rfl); (case wx1 => rfl)))
  clear L1
  have hzV1 : Hid ((w.alloc (.cells kc 43)).heap.size = w.heap.size + 1) := by show _ = _; simp only [World.size_alloc]
  generalize (w.alloc (.cells kc 43)) = V1 at *
  refine (CV.out V1).mono ?_
  rintro e V2 ⟨rfl, hy⟩
  replace K := Lib.hid (K.out.trans (hy.mono K.out.size))
  replace N := Lib.hid (N.out.below hy N.out.lt)
  clear hy
  go_wp2
  go_ret
  exact ⟨_, rfl, rd_nil _ _, K.out⟩
set_option maxRecDepth 100000 in
set_option maxHeartbeats 4000000 in
theorem rbytes_four (k : Fl) (hk : k.Fit) (hv : vK k = true) (h6 : k.sv = false) (w : World) :
    Calls Tryd.prog 49 #[.agg k.cs] w fun e w' => ∃ x, e = .returned x ∧ Rd w' x (nus .u8 (bK k)) ∧ Below w.heap.size w w' := by
  have K := Lib.hid (Below.refl w.heap.size w)
  have CV := Lib.hid (fun W => rvalid_any k hk W)
  rw [hv] at CV
  rw [bK_yes hv]
  have CB1 := Lib.hid (fun W => rbytes_own k.sv k.S hk.lS W)
  have CB2 := Lib.hid (fun W => rbytes_own k.dv k.D hk.lD W)
  obtain ⟨n1a, n1b⟩ := bytesA_n k.sv k.S hk.lS
  obtain ⟨n2a, n2b⟩ := bytesA_n k.dv k.D hk.lD
  have hsp := hk.sp
  have hdp := hk.dp
  have HB : Hid (bR k = [k.p, 4] ++ bytesA k.sv k.S ++ bytesA k.dv k.D ++ [k.sp / 256, k.sp % 256, k.dp / 256, k.dp % 256]) := by show _ = _; unfold bR; rw [bg2 _ hsp, bg2 _ hdp, h6]; simp
  obtain ⟨a0, a1, a18, a35, a36⟩ := fl_get k hk
  have G0 := Lib.hid a0
  have G1 := Lib.hid a1
  have G18 := Lib.hid a18
  have G35 := Lib.hid a35
  have G36 := Lib.hid a36
  have KP1 := Lib.hid (fl_src k)
  have KP2 := Lib.hid (fl_dst k hk)
  have IS := Lib.hid (fl_is k hk)
  have ID := Lib.hid (fl_id k hk)
  have IK := Lib.hid (fl_ik k hk)
  clear a0 a1 a18 a35 a36
  unfold adr at CB1 CB2
  generalize bR k = BR at *
  generalize bytesA k.sv k.S = B1 at *
  generalize bytesA k.dv k.D = B2 at *
  generalize k.cs = kc at *
  generalize cellsA k.sv k.S = S at *
  generalize cellsA k.dv k.D = D at *
  generalize k.p = p at *
  generalize k.sv = sv at *
  generalize k.dv = dv at *
  generalize k.sp = sp at *
  generalize k.dp = dp at *
  clear hk hv
  subst h6
  obtain ⟨m1, hm1⟩ : ∃ m, m = B1.length := ⟨_, rfl⟩
  obtain ⟨m2, hm2⟩ : ∃ m, m = B2.length := ⟨_, rfl⟩
  rw [← hm1] at CB1 n1a n1b
  rw [← hm2] at CB2 n2a n2b
  have HM1 := Lib.hid hm1
  have HM2 := Lib.hid hm2
  clear hm1 hm2
  obtain ⟨d1, hd1⟩ : ∃ d, d = sp / 256 := ⟨_, rfl⟩
  obtain ⟨d2, hd2⟩ : ∃ d, d = sp % 256 := ⟨_, rfl⟩
  obtain ⟨d3, hd3⟩ : ∃ d, d = dp / 256 := ⟨_, rfl⟩
  obtain ⟨d4, hd4⟩ : ∃ d, d = dp % 256 := ⟨_, rfl⟩
  have hw1 : IntKind.u8.wrap ((sp : Int) / 256) = (d1 : Int) := by rw [IntKind.wrap_u8]; omega
  have hw2 : IntKind.u8.wrap (sp : Int) = (d2 : Int) := by rw [IntKind.wrap_u8]; omega
  have hw3 : IntKind.u8.wrap ((dp : Int) / 256) = (d3 : Int) := by rw [IntKind.wrap_u8]; omega
  have hw4 : IntKind.u8.wrap (dp : Int) = (d4 : Int) := by rw [IntKind.wrap_u8]; omega
  rw [← hd1, ← hd2, ← hd3, ← hd4] at HB
  clear hd1 hd2 hd3 hd4 hsp hdp
  go_enter Tryd.func49, Tryd.ntmps49
  have hal := (Below.refl w.heap.size w).alloc (Nat.le_refl _) (.cells kc 43)
  replace K := Lib.hid (K.out.trans (hal.mono K.out.size))
  have N := Lib.hid (Blk.new w 43 kc)
  clear hal
  have L2 : (loadVar 43 ⟨w.heap.size, 0, none⟩).run Tryd.prog (w.alloc (.cells kc 43)) = .ok (.agg kc) (w.alloc (.cells kc 43)) := run_blk_load (P := Tryd.prog) 43 (w.heap.size) _ N.out Tryd.underlying43 rfl IK.out
  replace L2 := Lib.hid L2
  go_wp2_with (((with_reducible refine wpList_load_want (op := ⟨some 5, .load 43 (.tmp 1), _, _, _, _⟩) ?wg2 43 (.tmp 1) ?wo2 ⟨w.heap.size, 0, none⟩ ?wx2 (.agg kc) L2.out ?_); (case wg2 => rfl); (case wo2 => rfl); (case wx2 => rfl)))
  clear L2
  have hzV1 : Hid ((w.alloc (.cells kc 43)).heap.size = w.heap.size + 1) := by show _ = _; simp only [World.size_alloc]
  generalize (w.alloc (.cells kc 43)) = V1 at *
  refine (CV.out V1).mono ?_
  rintro e V2 ⟨rfl, hy⟩
  replace K := Lib.hid (K.out.trans (hy.mono K.out.size))
  replace N := Lib.hid (N.out.below hy N.out.lt)
  clear hy
  have L3 := (N.out.cell 1).trans G1.out
  go_wp2_with fail
  clear L3
  have hlow : V2.heap.size ≤ V2.heap.size := Nat.le_refl _
  have qK := K.out.size
  have qN := N.out.lt
  refine wp_region_held (S := (fun w' : World => Below (V2.heap.size) V2 w')) (by kernel_rfl) ?_
  change wpAnyH _ _ _ _ _ _ _ _ V2.drew
  have hy : Below V2.heap.size V2 V2.drew := (Below.refl _ _).drew
  have hE0 : Below (V2.heap.size) V2 V2.drew := (Below.refl _ _).drew
  clear hy
  generalize V2.drew = Y6x0 at hE0  ⊢
  have E0 := Lib.hid hE0
  clear hE0
  refine tkA 0 (?_) ?_ E0.out ?_
  rotate_left
  · (intro w1 hS; go_simp; try with_reducible rfl)
  simp only [Act.put, tS1, tS2, tS3]
  refine tkA 1 (?_) ?_ E0.out ?_
  rotate_left
  · (intro w1 hS; have hW := hS; have q := ((N.out.below hW (by omega)).cell 0).trans G0.out; clear hW hS; go_simp; try with_reducible rfl)
  simp only [Act.put, tS1, tS2, tS3]
  refine tkA 2 (?_) ?_ E0.out ?_
  rotate_left
  · (intro w1 hS; go_simp; try with_reducible rfl)
  simp only [Act.put, tS1, tS2, tS3]
  refine tkA 4 (?_) ?_ E0.out ?_
  rotate_left
  · (intro w1 hS; go_simp; try with_reducible rfl)
  simp only [Act.put, tS1, tS2, tS3]
  refine tkA 5 (.agg S) ?_ E0.out ?_
  · (intro w1 hS; have hW := hS; exact exec_load 26 (.tmp 15) rfl _ rfl _ (by have h := run_part_load (P := Tryd.prog) 26 1 S.toList _ (N.out.below hW (by omega)) KP1.out Tryd.underlying26 rfl IS.out; rwa [Array.toArray_toList] at h))
  simp only [Act.put, tS1, tS2, tS3]
  refine tkA 8 (?_) ?_ E0.out ?_
  rotate_left
  · (intro w1 hS; go_simp; try with_reducible rfl)
  simp only [Act.put, tS1, tS2, tS3]
  refine tkA 9 (.agg D) ?_ E0.out ?_
  · (intro w1 hS; have hW := hS; exact exec_load 26 (.tmp 19) rfl _ rfl _ (by have h := run_part_load (P := Tryd.prog) 26 18 D.toList _ (N.out.below hW (by omega)) KP2.out Tryd.underlying26 rfl ID.out; rwa [Array.toArray_toList] at h))
  simp only [Act.put, tS1, tS2, tS3]
  refine wpAnyH_ready (rs := [3, 6]) (by kernel_rfl) (by simp) ?_
  refine AllReadyH.cons (o := { dst := some 14, op := Op.buildSlice 90 2 #[(0, Operand.tmp 12), (1, Operand.tmp 13)], type := 90, pos := "table.go:34", after := #[{ on := 1, ground := Ground.data }, { on := 2, ground := Ground.data }], guard := none }) rfl (fun KK hK => ?_) (AllReadyH.cons (o := { dst := some 17, op := Op.call { callee := Callee.value (Operand.func 54), args := #[Operand.tmp 16], argTypes := #[26] }, type := 90, pos := "table.go:34", after := #[{ on := 5, ground := Ground.data }], guard := none }) rfl (fun KK hK => ?_) AllReadyH.nil)
  · go_simp
    have hy := (Below.refl Y6x0.heap.size Y6x0).alloc (Nat.le_refl _) (.cells #[Value.int .u8 (p : Int), .int .u8 4] 5)
    have O := (show (Y6x0.alloc (.cells #[Value.int .u8 (p : Int), .int .u8 4] 5)).ownsRow V2.heap.size 5 1 (.slice (some ⟨Y6x0.heap.size, 0, none⟩) 2 2) 2 (nus .u8 [p, 4]) from own_lit Y6x0 .u8 5 [p, 4] 2 V2.heap.size rfl (by simp [maxLen]) (Nat.le_trans hlow E0.out.size))
    have hg0 : V2.heap.size ≤ Y6x0.heap.size := Nat.le_trans hlow E0.out.size
    generalize Y6x0.alloc (.cells #[Value.int .u8 (p : Int), .int .u8 4] 5) = Y6x1 at O hy ⊢
    generalize Y6x0.heap.size = g0 at O hg0 ⊢
    replace O := Lib.hid O
    have E1 := Lib.hid (E0.out.trans (hy.mono (Nat.le_trans hlow E0.out.size)))
    have C1 := Lib.hid E1.out
    clear hy E0
    refine hK.out _ _ C1.out (fun _ => ?_)
    clear hK KK
    clear C1
    try simp only [Act.put, tS1, tS2, tS3]
    refine tkO 6 (fun KK hK => ?_)
    go_simp
    refine (CB1.out Y6x1).mono ?_
    rintro e Y6x2 ⟨z1, rfl, hz1, hy⟩
    replace O := Lib.hid (row_under O.out hy)
    have E2 := Lib.hid (E1.out.trans (hy.mono (Nat.le_trans hlow E1.out.size)))
    have C2 := Lib.hid E2.out
    have Z1 := Lib.hid (Rd.own hz1)
    obtain ⟨gz1, cz1, rfl, -, -, -, -⟩ := own_at hz1 (by omega)
    clear hz1
    clear hy E1
    refine hK.out _ _ C2.out (fun _ => ?_)
    clear hK KK
    clear C2
    try simp only [Act.put, tS1, tS2, tS3]
    refine tkO 7 (fun KK hK => ?_)
    rw [if_pos (by rfl)]
    refine wp_app (.tmp 14) (.tmp 17) rfl (V2.heap.size) (.slice (some ⟨g0, 0, none⟩) 2 2) 2 [p, 4] rfl O.out (some ⟨gz1, 0, none⟩) (m1) (cz1) B1 rfl (Z1.out) (by intro e; cases e) (by omega) (Nat.le_trans hlow E2.out.size) ?_
    intro vx Y6x3 oz gz
    clear Z1
    replace O := Lib.hid oz
    clear oz
    have E3 := Lib.hid (E2.out.grown gz (Nat.le_trans hlow E2.out.size) (fun k e => by cases e; first | exact Nat.le_refl _ | omega))
    obtain ⟨g1, k1, rfl, hk1, hk1m, hg1, hg1u⟩ := own_at O.out (by omega)
    clear gz E2
    refine hK.out _ _ E3.out (fun _ => ?_)
    clear hK KK
    try simp only [Act.put, tS1, tS2, tS3]
    refine tkO 10 (fun KK hK => ?_)
    go_simp
    refine (CB2.out Y6x3).mono ?_
    rintro e Y6x4 ⟨z2, rfl, hz2, hy⟩
    replace O := Lib.hid (row_under O.out hy)
    have E4 := Lib.hid (E3.out.trans (hy.mono (Nat.le_trans hlow E3.out.size)))
    have C4 := Lib.hid E4.out
    have Z2 := Lib.hid (Rd.own hz2)
    obtain ⟨gz2, cz2, rfl, -, -, -, -⟩ := own_at hz2 (by omega)
    clear hz2
    clear hy E3
    refine hK.out _ _ C4.out (fun _ => ?_)
    clear hK KK
    clear C4
    try simp only [Act.put, tS1, tS2, tS3]
    refine tkO 11 (fun KK hK => ?_)
    rw [if_pos (by rfl)]
    refine wp_app (.tmp 18) (.tmp 21) rfl (V2.heap.size) (.slice (some ⟨g1, 0, none⟩) (2 + m1) k1) (2 + m1) ([p, 4] ++ B1) rfl O.out (some ⟨gz2, 0, none⟩) (m2) (cz2) B2 rfl (Z2.out) (by intro e; cases e) (by omega) (Nat.le_trans hlow E4.out.size) ?_
    intro vx Y6x5 oz gz
    clear Z2
    replace O := Lib.hid oz
    clear oz
    have E5 := Lib.hid (E4.out.grown gz (Nat.le_trans hlow E4.out.size) (fun k e => by cases e; first | exact Nat.le_refl _ | omega))
    obtain ⟨g2, k2, rfl, hk2, hk2m, hg2, hg2u⟩ := own_at O.out (by omega)
    clear gz E4
    refine hK.out _ _ E5.out (fun _ => ?_)
    clear hK KK
    try simp only [Act.put, tS1, tS2, tS3]
    refine tkA 12 (?_) ?_ E5.out ?_
    rotate_left
    · (intro w1 hS; go_simp; try with_reducible rfl)
    simp only [Act.put, tS1, tS2, tS3]
    refine wpAnyH_done (by kernel_rfl) ?_ _
    have L := Lib.hid E5.out
    have P := Lib.hid O.out
    clear E5 O
    have NC := Lib.hid (N.out.below L.out qN)
    have c35 := (NC.out.cell 35).trans G35.out
    have c36 := (NC.out.cell 36).trans G36.out
    have hal := (Below.refl Y6x5.heap.size Y6x5).alloc (Nat.le_refl _) (.cells #[Value.int .u8 (d1 : Int), .int .u8 (d2 : Int), .int .u8 (d3 : Int), .int .u8 (d4 : Int)] 5)
    have RL := Lib.hid (show Rd (Y6x5.alloc (.cells #[Value.int .u8 (d1 : Int), .int .u8 (d2 : Int), .int .u8 (d3 : Int), .int .u8 (d4 : Int)] 5)) (.slice (some ⟨Y6x5.heap.size, 0, none⟩) 4 4) (nus .u8 [d1, d2, d3, d4]) from rd_lit Y6x5 .u8 5 [d1, d2, d3, d4] 4 (0, 0) rfl (by simp [maxLen]))
    replace P := Lib.hid (row_under P.out hal)
    replace L := Lib.hid (L.out.trans (hal.mono (Nat.le_trans hlow L.out.size)))
    clear hal
    go_wp2_with (at_builtin; refine wpList_app rfl (.tmp 23) (.tmp 38) rfl (V2.heap.size) _ (2 + m1 + m2) ([p, 4] ++ B1 ++ B2) rfl P.out (some ⟨Y6x5.heap.size, 0, none⟩) 4 4 [d1, d2, d3, d4] rfl (RL.out) (by intro e; cases e) ?ap4b ?ap4c ?ap4d)
    case ap4b => omega
    case ap4c => first | exact Nat.le_trans hlow L.out.size | (have q := Nat.le_trans hlow L.out.size; simp only [World.size_alloc] at q; exact q)
    intro vx X9 oz gz
    replace L := Lib.hid (L.out.grown gz (Nat.le_trans hlow L.out.size) (fun k e => by first | exact (P.out.lt k e).1 | (cases e; first | exact Nat.le_refl _ | omega)))
    go_wp2
    go_ret
    have q := Rd.own oz
    refine ⟨vx, rfl, ?_, K.out.trans (L.out.mono qK)⟩
    rw [HB.out]
    simpa using q
  · go_simp
    refine (CB1.out Y6x0).mono ?_
    rintro e Y6x1 ⟨z1, rfl, hz1, hy⟩
    have E1 := Lib.hid (E0.out.trans (hy.mono (Nat.le_trans hlow E0.out.size)))
    have C1 := Lib.hid E1.out
    have Z1 := Lib.hid (Rd.own hz1)
    obtain ⟨gz1, cz1, rfl, -, -, -, -⟩ := own_at hz1 (by omega)
    clear hz1
    clear hy E0
    refine hK.out _ _ C1.out (fun _ => ?_)
    clear hK KK
    clear C1
    try simp only [Act.put, tS1, tS2, tS3]
    refine tkO 3 (fun KK hK => ?_)
    go_simp
    have hy := (Below.refl Y6x1.heap.size Y6x1).alloc (Nat.le_refl _) (.cells #[Value.int .u8 (p : Int), .int .u8 4] 5)
    have O := (show (Y6x1.alloc (.cells #[Value.int .u8 (p : Int), .int .u8 4] 5)).ownsRow V2.heap.size 5 1 (.slice (some ⟨Y6x1.heap.size, 0, none⟩) 2 2) 2 (nus .u8 [p, 4]) from own_lit Y6x1 .u8 5 [p, 4] 2 V2.heap.size rfl (by simp [maxLen]) (Nat.le_trans hlow E1.out.size))
    have hg0 : V2.heap.size ≤ Y6x1.heap.size := Nat.le_trans hlow E1.out.size
    generalize Y6x1.alloc (.cells #[Value.int .u8 (p : Int), .int .u8 4] 5) = Y6x2 at O hy ⊢
    generalize Y6x1.heap.size = g0 at O hg0 ⊢
    replace O := Lib.hid O
    replace Z1 := Lib.hid (Z1.out.below hy)
    have E2 := Lib.hid (E1.out.trans (hy.mono (Nat.le_trans hlow E1.out.size)))
    have C2 := Lib.hid E2.out
    clear hy E1
    refine hK.out _ _ C2.out (fun _ => ?_)
    clear hK KK
    clear C2
    try simp only [Act.put, tS1, tS2, tS3]
    refine tkO 7 (fun KK hK => ?_)
    rw [if_pos (by rfl)]
    refine wp_app (.tmp 14) (.tmp 17) rfl (V2.heap.size) (.slice (some ⟨g0, 0, none⟩) 2 2) 2 [p, 4] rfl O.out (some ⟨gz1, 0, none⟩) (m1) (cz1) B1 rfl (Z1.out) (by intro e; cases e) (by omega) (Nat.le_trans hlow E2.out.size) ?_
    intro vx Y6x3 oz gz
    clear Z1
    replace O := Lib.hid oz
    clear oz
    have E3 := Lib.hid (E2.out.grown gz (Nat.le_trans hlow E2.out.size) (fun k e => by cases e; first | exact Nat.le_refl _ | omega))
    obtain ⟨g1, k1, rfl, hk1, hk1m, hg1, hg1u⟩ := own_at O.out (by omega)
    clear gz E2
    refine hK.out _ _ E3.out (fun _ => ?_)
    clear hK KK
    try simp only [Act.put, tS1, tS2, tS3]
    refine tkO 10 (fun KK hK => ?_)
    go_simp
    refine (CB2.out Y6x3).mono ?_
    rintro e Y6x4 ⟨z2, rfl, hz2, hy⟩
    replace O := Lib.hid (row_under O.out hy)
    have E4 := Lib.hid (E3.out.trans (hy.mono (Nat.le_trans hlow E3.out.size)))
    have C4 := Lib.hid E4.out
    have Z2 := Lib.hid (Rd.own hz2)
    obtain ⟨gz2, cz2, rfl, -, -, -, -⟩ := own_at hz2 (by omega)
    clear hz2
    clear hy E3
    refine hK.out _ _ C4.out (fun _ => ?_)
    clear hK KK
    clear C4
    try simp only [Act.put, tS1, tS2, tS3]
    refine tkO 11 (fun KK hK => ?_)
    rw [if_pos (by rfl)]
    refine wp_app (.tmp 18) (.tmp 21) rfl (V2.heap.size) (.slice (some ⟨g1, 0, none⟩) (2 + m1) k1) (2 + m1) ([p, 4] ++ B1) rfl O.out (some ⟨gz2, 0, none⟩) (m2) (cz2) B2 rfl (Z2.out) (by intro e; cases e) (by omega) (Nat.le_trans hlow E4.out.size) ?_
    intro vx Y6x5 oz gz
    clear Z2
    replace O := Lib.hid oz
    clear oz
    have E5 := Lib.hid (E4.out.grown gz (Nat.le_trans hlow E4.out.size) (fun k e => by cases e; first | exact Nat.le_refl _ | omega))
    obtain ⟨g2, k2, rfl, hk2, hk2m, hg2, hg2u⟩ := own_at O.out (by omega)
    clear gz E4
    refine hK.out _ _ E5.out (fun _ => ?_)
    clear hK KK
    try simp only [Act.put, tS1, tS2, tS3]
    refine tkA 12 (?_) ?_ E5.out ?_
    rotate_left
    · (intro w1 hS; go_simp; try with_reducible rfl)
    simp only [Act.put, tS1, tS2, tS3]
    refine wpAnyH_done (by kernel_rfl) ?_ _
    have L := Lib.hid E5.out
    have P := Lib.hid O.out
    clear E5 O
    have NC := Lib.hid (N.out.below L.out qN)
    have c35 := (NC.out.cell 35).trans G35.out
    have c36 := (NC.out.cell 36).trans G36.out
    have hal := (Below.refl Y6x5.heap.size Y6x5).alloc (Nat.le_refl _) (.cells #[Value.int .u8 (d1 : Int), .int .u8 (d2 : Int), .int .u8 (d3 : Int), .int .u8 (d4 : Int)] 5)
    have RL := Lib.hid (show Rd (Y6x5.alloc (.cells #[Value.int .u8 (d1 : Int), .int .u8 (d2 : Int), .int .u8 (d3 : Int), .int .u8 (d4 : Int)] 5)) (.slice (some ⟨Y6x5.heap.size, 0, none⟩) 4 4) (nus .u8 [d1, d2, d3, d4]) from rd_lit Y6x5 .u8 5 [d1, d2, d3, d4] 4 (0, 0) rfl (by simp [maxLen]))
    replace P := Lib.hid (row_under P.out hal)
    replace L := Lib.hid (L.out.trans (hal.mono (Nat.le_trans hlow L.out.size)))
    clear hal
    go_wp2_with (at_builtin; refine wpList_app rfl (.tmp 23) (.tmp 38) rfl (V2.heap.size) _ (2 + m1 + m2) ([p, 4] ++ B1 ++ B2) rfl P.out (some ⟨Y6x5.heap.size, 0, none⟩) 4 4 [d1, d2, d3, d4] rfl (RL.out) (by intro e; cases e) ?ap5b ?ap5c ?ap5d)
    case ap5b => omega
    case ap5c => first | exact Nat.le_trans hlow L.out.size | (have q := Nat.le_trans hlow L.out.size; simp only [World.size_alloc] at q; exact q)
    intro vx X9 oz gz
    replace L := Lib.hid (L.out.grown gz (Nat.le_trans hlow L.out.size) (fun k e => by first | exact (P.out.lt k e).1 | (cases e; first | exact Nat.le_refl _ | omega)))
    go_wp2
    go_ret
    have q := Rd.own oz
    refine ⟨vx, rfl, ?_, K.out.trans (L.out.mono qK)⟩
    rw [HB.out]
    simpa using q
set_option maxRecDepth 100000 in
set_option maxHeartbeats 4000000 in
theorem rbytes_six (k : Fl) (hk : k.Fit) (hv : vK k = true) (h6 : k.sv = true) (w : World) :
    Calls Tryd.prog 49 #[.agg k.cs] w fun e w' => ∃ x, e = .returned x ∧ Rd w' x (nus .u8 (bK k)) ∧ Below w.heap.size w w' := by
  have K := Lib.hid (Below.refl w.heap.size w)
  have CV := Lib.hid (fun W => rvalid_any k hk W)
  rw [hv] at CV
  rw [bK_yes hv]
  have CB1 := Lib.hid (fun W => rbytes_own k.sv k.S hk.lS W)
  have CB2 := Lib.hid (fun W => rbytes_own k.dv k.D hk.lD W)
  obtain ⟨n1a, n1b⟩ := bytesA_n k.sv k.S hk.lS
  obtain ⟨n2a, n2b⟩ := bytesA_n k.dv k.D hk.lD
  have hsp := hk.sp
  have hdp := hk.dp
  have HB : Hid (bR k = [k.p, 6] ++ bytesA k.sv k.S ++ bytesA k.dv k.D ++ [k.sp / 256, k.sp % 256, k.dp / 256, k.dp % 256]) := by show _ = _; unfold bR; rw [bg2 _ hsp, bg2 _ hdp, h6]; simp
  obtain ⟨a0, a1, a18, a35, a36⟩ := fl_get k hk
  have G0 := Lib.hid a0
  have G1 := Lib.hid a1
  have G18 := Lib.hid a18
  have G35 := Lib.hid a35
  have G36 := Lib.hid a36
  have KP1 := Lib.hid (fl_src k)
  have KP2 := Lib.hid (fl_dst k hk)
  have IS := Lib.hid (fl_is k hk)
  have ID := Lib.hid (fl_id k hk)
  have IK := Lib.hid (fl_ik k hk)
  clear a0 a1 a18 a35 a36
  unfold adr at CB1 CB2
  generalize bR k = BR at *
  generalize bytesA k.sv k.S = B1 at *
  generalize bytesA k.dv k.D = B2 at *
  generalize k.cs = kc at *
  generalize cellsA k.sv k.S = S at *
  generalize cellsA k.dv k.D = D at *
  generalize k.p = p at *
  generalize k.sv = sv at *
  generalize k.dv = dv at *
  generalize k.sp = sp at *
  generalize k.dp = dp at *
  clear hk hv
  subst h6
  obtain ⟨m1, hm1⟩ : ∃ m, m = B1.length := ⟨_, rfl⟩
  obtain ⟨m2, hm2⟩ : ∃ m, m = B2.length := ⟨_, rfl⟩
  rw [← hm1] at CB1 n1a n1b
  rw [← hm2] at CB2 n2a n2b
  have HM1 := Lib.hid hm1
  have HM2 := Lib.hid hm2
  clear hm1 hm2
  obtain ⟨d1, hd1⟩ : ∃ d, d = sp / 256 := ⟨_, rfl⟩
  obtain ⟨d2, hd2⟩ : ∃ d, d = sp % 256 := ⟨_, rfl⟩
  obtain ⟨d3, hd3⟩ : ∃ d, d = dp / 256 := ⟨_, rfl⟩
  obtain ⟨d4, hd4⟩ : ∃ d, d = dp % 256 := ⟨_, rfl⟩
  have hw1 : IntKind.u8.wrap ((sp : Int) / 256) = (d1 : Int) := by rw [IntKind.wrap_u8]; omega
  have hw2 : IntKind.u8.wrap (sp : Int) = (d2 : Int) := by rw [IntKind.wrap_u8]; omega
  have hw3 : IntKind.u8.wrap ((dp : Int) / 256) = (d3 : Int) := by rw [IntKind.wrap_u8]; omega
  have hw4 : IntKind.u8.wrap (dp : Int) = (d4 : Int) := by rw [IntKind.wrap_u8]; omega
  rw [← hd1, ← hd2, ← hd3, ← hd4] at HB
  clear hd1 hd2 hd3 hd4 hsp hdp
  go_enter Tryd.func49, Tryd.ntmps49
  have hal := (Below.refl w.heap.size w).alloc (Nat.le_refl _) (.cells kc 43)
  replace K := Lib.hid (K.out.trans (hal.mono K.out.size))
  have N := Lib.hid (Blk.new w 43 kc)
  clear hal
  have L6 : (loadVar 43 ⟨w.heap.size, 0, none⟩).run Tryd.prog (w.alloc (.cells kc 43)) = .ok (.agg kc) (w.alloc (.cells kc 43)) := run_blk_load (P := Tryd.prog) 43 (w.heap.size) _ N.out Tryd.underlying43 rfl IK.out
  replace L6 := Lib.hid L6
  go_wp2_with (((with_reducible refine wpList_load_want (op := ⟨some 5, .load 43 (.tmp 1), _, _, _, _⟩) ?wg6 43 (.tmp 1) ?wo6 ⟨w.heap.size, 0, none⟩ ?wx6 (.agg kc) L6.out ?_); (case wg6 => rfl); (case wo6 => rfl); (case wx6 => rfl)))
  clear L6
  have hzV1 : Hid ((w.alloc (.cells kc 43)).heap.size = w.heap.size + 1) := by show _ = _; simp only [World.size_alloc]
  generalize (w.alloc (.cells kc 43)) = V1 at *
  refine (CV.out V1).mono ?_
  rintro e V2 ⟨rfl, hy⟩
  replace K := Lib.hid (K.out.trans (hy.mono K.out.size))
  replace N := Lib.hid (N.out.below hy N.out.lt)
  clear hy
  have L7 := (N.out.cell 1).trans G1.out
  go_wp2_with fail
  clear L7
  have hlow : V2.heap.size ≤ V2.heap.size := Nat.le_refl _
  have qK := K.out.size
  have qN := N.out.lt
  refine wp_region_held (S := (fun w' : World => Below (V2.heap.size) V2 w')) (by kernel_rfl) ?_
  change wpAnyH _ _ _ _ _ _ _ _ V2.drew
  have hy : Below V2.heap.size V2 V2.drew := (Below.refl _ _).drew
  have hE0 : Below (V2.heap.size) V2 V2.drew := (Below.refl _ _).drew
  clear hy
  generalize V2.drew = Y6x0 at hE0  ⊢
  have E0 := Lib.hid hE0
  clear hE0
  refine tkA 0 (?_) ?_ E0.out ?_
  rotate_left
  · (intro w1 hS; go_simp; try with_reducible rfl)
  simp only [Act.put, tS1, tS2, tS3]
  refine tkA 1 (?_) ?_ E0.out ?_
  rotate_left
  · (intro w1 hS; have hW := hS; have q := ((N.out.below hW (by omega)).cell 0).trans G0.out; clear hW hS; go_simp; try with_reducible rfl)
  simp only [Act.put, tS1, tS2, tS3]
  refine tkA 2 (?_) ?_ E0.out ?_
  rotate_left
  · (intro w1 hS; go_simp; try with_reducible rfl)
  simp only [Act.put, tS1, tS2, tS3]
  refine tkA 4 (?_) ?_ E0.out ?_
  rotate_left
  · (intro w1 hS; go_simp; try with_reducible rfl)
  simp only [Act.put, tS1, tS2, tS3]
  refine tkA 5 (.agg S) ?_ E0.out ?_
  · (intro w1 hS; have hW := hS; exact exec_load 26 (.tmp 15) rfl _ rfl _ (by have h := run_part_load (P := Tryd.prog) 26 1 S.toList _ (N.out.below hW (by omega)) KP1.out Tryd.underlying26 rfl IS.out; rwa [Array.toArray_toList] at h))
  simp only [Act.put, tS1, tS2, tS3]
  refine tkA 8 (?_) ?_ E0.out ?_
  rotate_left
  · (intro w1 hS; go_simp; try with_reducible rfl)
  simp only [Act.put, tS1, tS2, tS3]
  refine tkA 9 (.agg D) ?_ E0.out ?_
  · (intro w1 hS; have hW := hS; exact exec_load 26 (.tmp 19) rfl _ rfl _ (by have h := run_part_load (P := Tryd.prog) 26 18 D.toList _ (N.out.below hW (by omega)) KP2.out Tryd.underlying26 rfl ID.out; rwa [Array.toArray_toList] at h))
  simp only [Act.put, tS1, tS2, tS3]
  refine wpAnyH_ready (rs := [3, 6]) (by kernel_rfl) (by simp) ?_
  refine AllReadyH.cons (o := { dst := some 14, op := Op.buildSlice 90 2 #[(0, Operand.tmp 12), (1, Operand.tmp 13)], type := 90, pos := "table.go:34", after := #[{ on := 1, ground := Ground.data }, { on := 2, ground := Ground.data }], guard := none }) rfl (fun KK hK => ?_) (AllReadyH.cons (o := { dst := some 17, op := Op.call { callee := Callee.value (Operand.func 54), args := #[Operand.tmp 16], argTypes := #[26] }, type := 90, pos := "table.go:34", after := #[{ on := 5, ground := Ground.data }], guard := none }) rfl (fun KK hK => ?_) AllReadyH.nil)
  · go_simp
    have hy := (Below.refl Y6x0.heap.size Y6x0).alloc (Nat.le_refl _) (.cells #[Value.int .u8 (p : Int), .int .u8 6] 5)
    have O := (show (Y6x0.alloc (.cells #[Value.int .u8 (p : Int), .int .u8 6] 5)).ownsRow V2.heap.size 5 1 (.slice (some ⟨Y6x0.heap.size, 0, none⟩) 2 2) 2 (nus .u8 [p, 6]) from own_lit Y6x0 .u8 5 [p, 6] 2 V2.heap.size rfl (by simp [maxLen]) (Nat.le_trans hlow E0.out.size))
    have hg0 : V2.heap.size ≤ Y6x0.heap.size := Nat.le_trans hlow E0.out.size
    generalize Y6x0.alloc (.cells #[Value.int .u8 (p : Int), .int .u8 6] 5) = Y6x1 at O hy ⊢
    generalize Y6x0.heap.size = g0 at O hg0 ⊢
    replace O := Lib.hid O
    have E1 := Lib.hid (E0.out.trans (hy.mono (Nat.le_trans hlow E0.out.size)))
    have C1 := Lib.hid E1.out
    clear hy E0
    refine hK.out _ _ C1.out (fun _ => ?_)
    clear hK KK
    clear C1
    try simp only [Act.put, tS1, tS2, tS3]
    refine tkO 6 (fun KK hK => ?_)
    go_simp
    refine (CB1.out Y6x1).mono ?_
    rintro e Y6x2 ⟨z1, rfl, hz1, hy⟩
    replace O := Lib.hid (row_under O.out hy)
    have E2 := Lib.hid (E1.out.trans (hy.mono (Nat.le_trans hlow E1.out.size)))
    have C2 := Lib.hid E2.out
    have Z1 := Lib.hid (Rd.own hz1)
    obtain ⟨gz1, cz1, rfl, -, -, -, -⟩ := own_at hz1 (by omega)
    clear hz1
    clear hy E1
    refine hK.out _ _ C2.out (fun _ => ?_)
    clear hK KK
    clear C2
    try simp only [Act.put, tS1, tS2, tS3]
    refine tkO 7 (fun KK hK => ?_)
    rw [if_pos (by rfl)]
    refine wp_app (.tmp 14) (.tmp 17) rfl (V2.heap.size) (.slice (some ⟨g0, 0, none⟩) 2 2) 2 [p, 6] rfl O.out (some ⟨gz1, 0, none⟩) (m1) (cz1) B1 rfl (Z1.out) (by intro e; cases e) (by omega) (Nat.le_trans hlow E2.out.size) ?_
    intro vx Y6x3 oz gz
    clear Z1
    replace O := Lib.hid oz
    clear oz
    have E3 := Lib.hid (E2.out.grown gz (Nat.le_trans hlow E2.out.size) (fun k e => by cases e; first | exact Nat.le_refl _ | omega))
    obtain ⟨g1, k1, rfl, hk1, hk1m, hg1, hg1u⟩ := own_at O.out (by omega)
    clear gz E2
    refine hK.out _ _ E3.out (fun _ => ?_)
    clear hK KK
    try simp only [Act.put, tS1, tS2, tS3]
    refine tkO 10 (fun KK hK => ?_)
    go_simp
    refine (CB2.out Y6x3).mono ?_
    rintro e Y6x4 ⟨z2, rfl, hz2, hy⟩
    replace O := Lib.hid (row_under O.out hy)
    have E4 := Lib.hid (E3.out.trans (hy.mono (Nat.le_trans hlow E3.out.size)))
    have C4 := Lib.hid E4.out
    have Z2 := Lib.hid (Rd.own hz2)
    obtain ⟨gz2, cz2, rfl, -, -, -, -⟩ := own_at hz2 (by omega)
    clear hz2
    clear hy E3
    refine hK.out _ _ C4.out (fun _ => ?_)
    clear hK KK
    clear C4
    try simp only [Act.put, tS1, tS2, tS3]
    refine tkO 11 (fun KK hK => ?_)
    rw [if_pos (by rfl)]
    refine wp_app (.tmp 18) (.tmp 21) rfl (V2.heap.size) (.slice (some ⟨g1, 0, none⟩) (2 + m1) k1) (2 + m1) ([p, 6] ++ B1) rfl O.out (some ⟨gz2, 0, none⟩) (m2) (cz2) B2 rfl (Z2.out) (by intro e; cases e) (by omega) (Nat.le_trans hlow E4.out.size) ?_
    intro vx Y6x5 oz gz
    clear Z2
    replace O := Lib.hid oz
    clear oz
    have E5 := Lib.hid (E4.out.grown gz (Nat.le_trans hlow E4.out.size) (fun k e => by cases e; first | exact Nat.le_refl _ | omega))
    obtain ⟨g2, k2, rfl, hk2, hk2m, hg2, hg2u⟩ := own_at O.out (by omega)
    clear gz E4
    refine hK.out _ _ E5.out (fun _ => ?_)
    clear hK KK
    try simp only [Act.put, tS1, tS2, tS3]
    refine tkA 12 (?_) ?_ E5.out ?_
    rotate_left
    · (intro w1 hS; go_simp; try with_reducible rfl)
    simp only [Act.put, tS1, tS2, tS3]
    refine wpAnyH_done (by kernel_rfl) ?_ _
    have L := Lib.hid E5.out
    have P := Lib.hid O.out
    clear E5 O
    have NC := Lib.hid (N.out.below L.out qN)
    have c35 := (NC.out.cell 35).trans G35.out
    have c36 := (NC.out.cell 36).trans G36.out
    have hal := (Below.refl Y6x5.heap.size Y6x5).alloc (Nat.le_refl _) (.cells #[Value.int .u8 (d1 : Int), .int .u8 (d2 : Int), .int .u8 (d3 : Int), .int .u8 (d4 : Int)] 5)
    have RL := Lib.hid (show Rd (Y6x5.alloc (.cells #[Value.int .u8 (d1 : Int), .int .u8 (d2 : Int), .int .u8 (d3 : Int), .int .u8 (d4 : Int)] 5)) (.slice (some ⟨Y6x5.heap.size, 0, none⟩) 4 4) (nus .u8 [d1, d2, d3, d4]) from rd_lit Y6x5 .u8 5 [d1, d2, d3, d4] 4 (0, 0) rfl (by simp [maxLen]))
    replace P := Lib.hid (row_under P.out hal)
    replace L := Lib.hid (L.out.trans (hal.mono (Nat.le_trans hlow L.out.size)))
    clear hal
    go_wp2_with (at_builtin; refine wpList_app rfl (.tmp 23) (.tmp 38) rfl (V2.heap.size) _ (2 + m1 + m2) ([p, 6] ++ B1 ++ B2) rfl P.out (some ⟨Y6x5.heap.size, 0, none⟩) 4 4 [d1, d2, d3, d4] rfl (RL.out) (by intro e; cases e) ?ap8b ?ap8c ?ap8d)
    case ap8b => omega
    case ap8c => first | exact Nat.le_trans hlow L.out.size | (have q := Nat.le_trans hlow L.out.size; simp only [World.size_alloc] at q; exact q)
    intro vx X9 oz gz
    replace L := Lib.hid (L.out.grown gz (Nat.le_trans hlow L.out.size) (fun k e => by first | exact (P.out.lt k e).1 | (cases e; first | exact Nat.le_refl _ | omega)))
    go_wp2
    go_ret
    have q := Rd.own oz
    refine ⟨vx, rfl, ?_, K.out.trans (L.out.mono qK)⟩
    rw [HB.out]
    simpa using q
  · go_simp
    refine (CB1.out Y6x0).mono ?_
    rintro e Y6x1 ⟨z1, rfl, hz1, hy⟩
    have E1 := Lib.hid (E0.out.trans (hy.mono (Nat.le_trans hlow E0.out.size)))
    have C1 := Lib.hid E1.out
    have Z1 := Lib.hid (Rd.own hz1)
    obtain ⟨gz1, cz1, rfl, -, -, -, -⟩ := own_at hz1 (by omega)
    clear hz1
    clear hy E0
    refine hK.out _ _ C1.out (fun _ => ?_)
    clear hK KK
    clear C1
    try simp only [Act.put, tS1, tS2, tS3]
    refine tkO 3 (fun KK hK => ?_)
    go_simp
    have hy := (Below.refl Y6x1.heap.size Y6x1).alloc (Nat.le_refl _) (.cells #[Value.int .u8 (p : Int), .int .u8 6] 5)
    have O := (show (Y6x1.alloc (.cells #[Value.int .u8 (p : Int), .int .u8 6] 5)).ownsRow V2.heap.size 5 1 (.slice (some ⟨Y6x1.heap.size, 0, none⟩) 2 2) 2 (nus .u8 [p, 6]) from own_lit Y6x1 .u8 5 [p, 6] 2 V2.heap.size rfl (by simp [maxLen]) (Nat.le_trans hlow E1.out.size))
    have hg0 : V2.heap.size ≤ Y6x1.heap.size := Nat.le_trans hlow E1.out.size
    generalize Y6x1.alloc (.cells #[Value.int .u8 (p : Int), .int .u8 6] 5) = Y6x2 at O hy ⊢
    generalize Y6x1.heap.size = g0 at O hg0 ⊢
    replace O := Lib.hid O
    replace Z1 := Lib.hid (Z1.out.below hy)
    have E2 := Lib.hid (E1.out.trans (hy.mono (Nat.le_trans hlow E1.out.size)))
    have C2 := Lib.hid E2.out
    clear hy E1
    refine hK.out _ _ C2.out (fun _ => ?_)
    clear hK KK
    clear C2
    try simp only [Act.put, tS1, tS2, tS3]
    refine tkO 7 (fun KK hK => ?_)
    rw [if_pos (by rfl)]
    refine wp_app (.tmp 14) (.tmp 17) rfl (V2.heap.size) (.slice (some ⟨g0, 0, none⟩) 2 2) 2 [p, 6] rfl O.out (some ⟨gz1, 0, none⟩) (m1) (cz1) B1 rfl (Z1.out) (by intro e; cases e) (by omega) (Nat.le_trans hlow E2.out.size) ?_
    intro vx Y6x3 oz gz
    clear Z1
    replace O := Lib.hid oz
    clear oz
    have E3 := Lib.hid (E2.out.grown gz (Nat.le_trans hlow E2.out.size) (fun k e => by cases e; first | exact Nat.le_refl _ | omega))
    obtain ⟨g1, k1, rfl, hk1, hk1m, hg1, hg1u⟩ := own_at O.out (by omega)
    clear gz E2
    refine hK.out _ _ E3.out (fun _ => ?_)
    clear hK KK
    try simp only [Act.put, tS1, tS2, tS3]
    refine tkO 10 (fun KK hK => ?_)
    go_simp
    refine (CB2.out Y6x3).mono ?_
    rintro e Y6x4 ⟨z2, rfl, hz2, hy⟩
    replace O := Lib.hid (row_under O.out hy)
    have E4 := Lib.hid (E3.out.trans (hy.mono (Nat.le_trans hlow E3.out.size)))
    have C4 := Lib.hid E4.out
    have Z2 := Lib.hid (Rd.own hz2)
    obtain ⟨gz2, cz2, rfl, -, -, -, -⟩ := own_at hz2 (by omega)
    clear hz2
    clear hy E3
    refine hK.out _ _ C4.out (fun _ => ?_)
    clear hK KK
    clear C4
    try simp only [Act.put, tS1, tS2, tS3]
    refine tkO 11 (fun KK hK => ?_)
    rw [if_pos (by rfl)]
    refine wp_app (.tmp 18) (.tmp 21) rfl (V2.heap.size) (.slice (some ⟨g1, 0, none⟩) (2 + m1) k1) (2 + m1) ([p, 6] ++ B1) rfl O.out (some ⟨gz2, 0, none⟩) (m2) (cz2) B2 rfl (Z2.out) (by intro e; cases e) (by omega) (Nat.le_trans hlow E4.out.size) ?_
    intro vx Y6x5 oz gz
    clear Z2
    replace O := Lib.hid oz
    clear oz
    have E5 := Lib.hid (E4.out.grown gz (Nat.le_trans hlow E4.out.size) (fun k e => by cases e; first | exact Nat.le_refl _ | omega))
    obtain ⟨g2, k2, rfl, hk2, hk2m, hg2, hg2u⟩ := own_at O.out (by omega)
    clear gz E4
    refine hK.out _ _ E5.out (fun _ => ?_)
    clear hK KK
    try simp only [Act.put, tS1, tS2, tS3]
    refine tkA 12 (?_) ?_ E5.out ?_
    rotate_left
    · (intro w1 hS; go_simp; try with_reducible rfl)
    simp only [Act.put, tS1, tS2, tS3]
    refine wpAnyH_done (by kernel_rfl) ?_ _
    have L := Lib.hid E5.out
    have P := Lib.hid O.out
    clear E5 O
    have NC := Lib.hid (N.out.below L.out qN)
    have c35 := (NC.out.cell 35).trans G35.out
    have c36 := (NC.out.cell 36).trans G36.out
    have hal := (Below.refl Y6x5.heap.size Y6x5).alloc (Nat.le_refl _) (.cells #[Value.int .u8 (d1 : Int), .int .u8 (d2 : Int), .int .u8 (d3 : Int), .int .u8 (d4 : Int)] 5)
    have RL := Lib.hid (show Rd (Y6x5.alloc (.cells #[Value.int .u8 (d1 : Int), .int .u8 (d2 : Int), .int .u8 (d3 : Int), .int .u8 (d4 : Int)] 5)) (.slice (some ⟨Y6x5.heap.size, 0, none⟩) 4 4) (nus .u8 [d1, d2, d3, d4]) from rd_lit Y6x5 .u8 5 [d1, d2, d3, d4] 4 (0, 0) rfl (by simp [maxLen]))
    replace P := Lib.hid (row_under P.out hal)
    replace L := Lib.hid (L.out.trans (hal.mono (Nat.le_trans hlow L.out.size)))
    clear hal
    go_wp2_with (at_builtin; refine wpList_app rfl (.tmp 23) (.tmp 38) rfl (V2.heap.size) _ (2 + m1 + m2) ([p, 6] ++ B1 ++ B2) rfl P.out (some ⟨Y6x5.heap.size, 0, none⟩) 4 4 [d1, d2, d3, d4] rfl (RL.out) (by intro e; cases e) ?ap9b ?ap9c ?ap9d)
    case ap9b => omega
    case ap9c => first | exact Nat.le_trans hlow L.out.size | (have q := Nat.le_trans hlow L.out.size; simp only [World.size_alloc] at q; exact q)
    intro vx X9 oz gz
    replace L := Lib.hid (L.out.grown gz (Nat.le_trans hlow L.out.size) (fun k e => by first | exact (P.out.lt k e).1 | (cases e; first | exact Nat.le_refl _ | omega)))
    go_wp2
    go_ret
    have q := Rd.own oz
    refine ⟨vx, rfl, ?_, K.out.trans (L.out.mono qK)⟩
    rw [HB.out]
    simpa using q
set_option maxRecDepth 100000 in
theorem rbytes_any (k : Fl) (hk : k.Fit) (w : World) : Calls Tryd.prog 49 #[.agg k.cs] w fun e w' => ∃ x, e = .returned x ∧ Rd w' x (nus .u8 (bK k)) ∧ Below w.heap.size w w' := by
  cases hv : vK k with
  | false => exact rbytes_no k hk hv w
  | true =>
    cases h6 : k.sv with
    | false => exact rbytes_four k hk hv h6 w
    | true => exact rbytes_six k hk hv h6 w
end Go.Proofs.YtcgaibkpdihncaaDoor
