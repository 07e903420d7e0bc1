/- Texts that the walks of this seat lean on, put together. -/
import Derived.Test.YthionipmohbnhaaTk
import Derived.Test.YthionipmohbnhaaM09
namespace Go.Proofs.Ythionipmohbnhaa
open Go.RowKit
set_option maxRecDepth 100000 in
set_option maxHeartbeats 4000000 in
theorem rmake_yes (sb db : List Nat) (p n : Nat) (w : World) (hl1 : sb.length = 16) (hl2 : db.length = 16) (hn : n ≤ 65535) :
    Calls Try.prog 31 #[adr true sb, adr true db, .int .u8 (p : Int), .int .i64 (n : Int)] w fun e w' => ∃ x, e = .returned (.tuple #[x, .bool true]) ∧ w'.ownsRow w.heap.size 5 1 x 40 (nus .u8 (mk6 sb db p n)) ∧ Below w.heap.size w w' := by
  have CS := Lib.hid (fun w' => rbytes_own true sb hl1 w')
  have CD := Lib.hid (fun w' => rbytes_own true db hl2 w')
  unfold bytesA at CS CD
  rw [if_pos rfl, hl1] at CS
  rw [if_pos rfl, hl2] at CD
  unfold adr at CS CD ⊢
  have E1 := Lib.hid (show (cellsA true sb)[0]? = some (.bool true) from cellsA_head _ _)
  have E2 := Lib.hid (show (cellsA true db)[0]? = some (.bool true) from cellsA_head _ _)
  have z1 : (cellsA true sb).size = 17 := by rw [cellsA_size, hl1]
  have z2 : (cellsA true db).size = 17 := by rw [cellsA_size, hl2]
  have I1 := Lib.hid (i24.trans (congrArg some z1.symm))
  have I2 := Lib.hid (i24.trans (congrArg some z2.symm))
  obtain ⟨d1, hd1⟩ : ∃ d, d = n / 256 % 256 := ⟨_, rfl⟩
  obtain ⟨d2, hd2⟩ : ∃ d, d = n % 256 := ⟨_, rfl⟩
  have HM : Hid ([96, 0, 0, 0, d1, d2, p, 64] ++ sb ++ db = mk6 sb db p n) := by
    show _ = _
    rw [hd1, hd2]; simp [mk6, bg]
  have hw1 : IntKind.u8.wrap ((n : Int) / 256) = (d1 : Int) := by rw [IntKind.wrap_u8]; omega
  have hw2 : IntKind.u8.wrap (n : Int) = (d2 : Int) := by rw [IntKind.wrap_u8]; omega
  generalize mk6 sb db p n = M at *
  generalize cellsA true sb = c1 at *
  generalize cellsA true db = c2 at *
  have K := Lib.hid (Below.refl w.heap.size w)
  clear z1 z2 hl1 hl2 hd1 hd2
  go_enter Try.func31, Try.ntmps31
  have hal := (Below.refl w.heap.size w).alloc (Nat.le_refl _) (.cells c1 25)
  replace K := Lib.hid (K.out.trans (hal.mono K.out.size))
  have N1 := Lib.hid (Blk.new w 25 c1)
  clear hal
  have hal := (Below.refl (w.alloc (.cells c1 25)).heap.size (w.alloc (.cells c1 25))).alloc (Nat.le_refl _) (.cells c2 25)
  replace K := Lib.hid (K.out.trans (hal.mono K.out.size))
  replace N1 := Lib.hid (N1.out.below hal N1.out.lt)
  have N2q := Blk.new (w.alloc (.cells c1 25)) 25 c2
  simp only [World.size_alloc] at N2q
  have N2 := Lib.hid N2q
  clear N2q
  clear hal
  have hc1 := (N1.out.cell 0).trans E1.out
  have hc2 := (N2.out.cell 0).trans E2.out
  go_wp2_with fail
  have hzV1 : Hid (((w.alloc (.cells c1 25)).alloc (.cells c2 25)).heap.size = w.heap.size + 1 + 1) := by show _ = _; simp only [World.size_alloc]
  generalize ((w.alloc (.cells c1 25)).alloc (.cells c2 25)) = V1 at *
  clear hc1 hc2 E1 E2
  have O := Lib.hid (show (V1.alloc (.cells #[Value.int .u8 96, .int .u8 0, .int .u8 0, .int .u8 0, .int .u8 (d1 : Int), .int .u8 (d2 : Int), .int .u8 (p : Int), .int .u8 64] 5)).ownsRow V1.heap.size 5 1 (.slice (some ⟨V1.heap.size, 0, none⟩) 8 8) 8 (nus .u8 [96, 0, 0, 0, d1, d2, p, 64]) from own_lit V1 .u8 5 [96, 0, 0, 0, d1, d2, p, 64] 8 V1.heap.size rfl (by simp [maxLen]) (Nat.le_refl _))
  have q2 : w.heap.size + 1 < V1.heap.size := N2.out.lt
  have q1 : w.heap.size < V1.heap.size := by omega
  have hal := (Below.refl V1.heap.size V1).alloc (Nat.le_refl _) (.cells #[Value.int .u8 96, .int .u8 0, .int .u8 0, .int .u8 0, .int .u8 (d1 : Int), .int .u8 (d2 : Int), .int .u8 (p : Int), .int .u8 64] 5)
  have hbase := K.out.size
  replace K := Lib.hid (K.out.trans (hal.mono K.out.size))
  replace N1 := Lib.hid (N1.out.below hal N1.out.lt)
  replace N2 := Lib.hid (N2.out.below hal N2.out.lt)
  generalize V1.alloc (.cells #[Value.int .u8 96, .int .u8 0, .int .u8 0, .int .u8 0, .int .u8 (d1 : Int), .int .u8 (d2 : Int), .int .u8 (p : Int), .int .u8 64] 5) = V2 at *
  have hlow : V1.heap.size ≤ V2.heap.size := hal.size
  clear hal
  obtain ⟨g0, hg0⟩ : ∃ g, g = w.heap.size + 1 + 1 := ⟨_, rfl⟩
  rw [hzV1.out, ← hg0] at O hlow hbase q1 q2
  rw [← hg0]
  clear hg0
  refine wp_region_held (S := (fun w' : World => Below (g0) V2 w')) (by kernel_rfl) ?_
  change wpAnyH _ _ _ _ _ _ _ _ V2.drew
  have hy : Below V2.heap.size V2 V2.drew := (Below.refl _ _).drew
  have hE0 : Below (g0) V2 V2.drew := (Below.refl _ _).drew
  replace O := Lib.hid (row_under O.out hy)
  clear hy
  generalize V2.drew = Y4x0 at hE0 O ⊢
  have E0 := Lib.hid hE0
  clear hE0
  refine tkA 0 (?_) ?_ E0.out ?_
  rotate_left
  · (intro w1 hS; go_simp; try with_reducible rfl)
  simp only [Act.put, tS1, tS2, tS3]
  refine tkA 1 (.agg c1) ?_ E0.out ?_
  · (intro w1 hS; have hW := hS; exact exec_load 25 (.tmp 4) rfl _ rfl _ (run_blk_load (P := Try.prog) 25 (w.heap.size) _ (N1.out.below hW (by omega)) Try.underlying25 rfl I1.out))
  simp only [Act.put, tS1, tS2, tS3]
  refine tkA 4 (.agg c2) ?_ E0.out ?_
  · (intro w1 hS; have hW := hS; exact exec_load 25 (.tmp 5) rfl _ rfl _ (run_blk_load (P := Try.prog) 25 (w.heap.size + 1) _ (N2.out.below hW (by omega)) Try.underlying25 rfl I2.out))
  simp only [Act.put, tS1, tS2, tS3]
  refine tkO 2 (fun K hK => ?_)
  go_simp
  refine (CS.out Y4x0).mono ?_
  rintro e Y4x1 ⟨z, rfl, hz, hy⟩
  replace O := Lib.hid (row_under O.out hy)
  have E1 := Lib.hid (E0.out.trans (hy.mono (Nat.le_trans hlow E0.out.size)))
  have C1 := Lib.hid E1.out
  have Z := Lib.hid (hz)
  clear hz
  clear hy E0
  refine hK.out _ _ C1.out (fun _ => ?_)
  clear hK K
  clear C1
  try simp only [Act.put, tS1, tS2, tS3]
  obtain ⟨gz, cz, rfl, -, -, -, -⟩ := own_at Z.out (by omega)
  refine tkO 3 (fun K hK => ?_)
  rw [if_pos (by rfl)]
  refine wp_app (.tmp 34) (.tmp 36) rfl (g0) (.slice (some ⟨g0, 0, none⟩) (8) 8) (8) [96, 0, 0, 0, d1, d2, p, 64] rfl O.out (some ⟨gz, 0, none⟩) (16) (cz) sb rfl (Rd.own Z.out) (by intro e; cases e) (by omega) (Nat.le_trans hlow E1.out.size) ?_
  intro vx Y4x2 oz gz
  clear Z
  replace O := Lib.hid oz
  clear oz
  have E2 := Lib.hid (E1.out.grown gz (Nat.le_trans hlow E1.out.size) (fun k e => by cases e; first | exact Nat.le_refl _ | omega))
  obtain ⟨g1, cz1, rfl, hcz1, hcz1m, hg1, hg1u⟩ := own_at O.out (by omega)
  clear gz E1
  refine hK.out _ _ E2.out (fun _ => ?_)
  clear hK K
  try simp only [Act.put, tS1, tS2, tS3]
  refine tkO 5 (fun K hK => ?_)
  go_simp
  refine (CD.out Y4x2).mono ?_
  rintro e Y4x3 ⟨z, rfl, hz, hy⟩
  replace O := Lib.hid (row_under O.out hy)
  have E3 := Lib.hid (E2.out.trans (hy.mono (Nat.le_trans hlow E2.out.size)))
  have C3 := Lib.hid E3.out
  have Z := Lib.hid (hz)
  clear hz
  clear hy E2
  refine hK.out _ _ C3.out (fun _ => ?_)
  clear hK K
  clear C3
  try simp only [Act.put, tS1, tS2, tS3]
  obtain ⟨gz, cz, rfl, -, -, -, -⟩ := own_at Z.out (by omega)
  refine tkO 6 (fun K hK => ?_)
  rw [if_pos (by rfl)]
  refine wp_app (.tmp 37) (.tmp 39) rfl (g0) (.slice (some ⟨g1, 0, none⟩) (8 + 16) cz1) (8 + 16) ([96, 0, 0, 0, d1, d2, p, 64] ++ sb) rfl O.out (some ⟨gz, 0, none⟩) (16) (cz) db rfl (Rd.own Z.out) (by intro e; cases e) (by omega) (Nat.le_trans hlow E3.out.size) ?_
  intro vx Y4x4 oz gz
  clear Z
  replace O := Lib.hid oz
  clear oz
  have E4 := Lib.hid (E3.out.grown gz (Nat.le_trans hlow E3.out.size) (fun k e => by cases e; first | exact Nat.le_refl _ | omega))
  obtain ⟨g2, cz2, rfl, hcz2, hcz2m, hg2, hg2u⟩ := own_at O.out (by omega)
  clear gz E3
  refine hK.out _ _ E4.out (fun _ => ?_)
  clear hK K
  try simp only [Act.put, tS1, tS2, tS3]
  refine tkA 7 (?_) ?_ E4.out ?_
  rotate_left
  · (intro w1 hS; go_simp; try with_reducible rfl)
  simp only [Act.put, tS1, tS2, tS3]
  refine tkA 8 (?_) ?_ E4.out ?_
  rotate_left
  · (intro w1 hS; go_simp; try with_reducible rfl)
  simp only [Act.put, tS1, tS2, tS3]
  refine wpAnyH_done (by kernel_rfl) ?_ _
  replace K := Lib.hid (K.out.trans (E4.out.mono (by omega)))
  replace N1 := Lib.hid (N1.out.below E4.out (by omega))
  replace N2 := Lib.hid (N2.out.below E4.out (by omega))
  clear E4
  rw [HM.out] at O
  go_wp2
  go_ret2
  exact ⟨_, rfl, own_low hbase O.out, K.out⟩
end Go.Proofs.Ythionipmohbnhaa
