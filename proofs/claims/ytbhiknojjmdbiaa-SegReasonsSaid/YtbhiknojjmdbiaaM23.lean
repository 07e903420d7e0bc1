/- Texts that the walks of this seat lean on, put together: each has its own remark below. -/
import Derived.Lib.SlBytesConst
import Derived.Deep.CutBlock
import Derived.Deep.DeepCutAuto
import Derived.Test.YtbhiknojjmdbiaaM02
import Derived.Test.YtbhiknojjmdbiaaM21

/- The walk of SegReasons. -/
namespace Go.Proofs.Ytbhiknojjmdbiaa
open Go.RowKit

set_option maxRecDepth 100000 in
theorem eq_h0 (w : World) : (Op.equalIn 10000 30 (.agg #[Value.int .u16 0, .int .u16 0, .int .u8 0]) (.agg #[Value.int .u16 0, .int .u16 0, .int .u8 0])).run Try.prog w = .ok true w := by
  obtain ⟨r, hr, he⟩ := run_equalIn_deep (P := Try.prog) 9996 4 30 (by kernel_rfl) w 4 4 _ _ ([.int .u16 0, .int .u16 0, .int .u8 0]) ([.int .u16 0, .int .u16 0, .int .u8 0]) (by kernel_rfl) (by kernel_rfl) (by kernel_rfl) (by kernel_rfl)
  have e : r = true := he.2 rfl
  subst e
  exact hr
theorem own_put7 {w : World} {base g n cap : Nat} {zs : List Nat} (h : w.ownsRow base 5 1 (.slice (some ⟨g, 0, none⟩) n cap) n (nus .u8 zs)) (j v : Nat) :
    (w.setCell ⟨g, j, none⟩ (.int .u8 (v : Int))).ownsRow base 5 1 (.slice (some ⟨g, 0, none⟩) n cap) n (nus .u8 (zs.set j v)) ∧ w.grownBy (w.setCell ⟨g, j, none⟩ (.int .u8 (v : Int))) (some g) := by
  have := h.stored j (.int .u8 (v : Int))
  rw [nus_set] at this
  exact this
theorem own_cell7 {w : World} {base g n cap : Nat} {zs : List Nat} (h : w.ownsRow base 5 1 (.slice (some ⟨g, 0, none⟩) n cap) n (nus .u8 zs)) (j : Nat) (hj : j < n) :
    w.cell? ⟨g, j, none⟩ = some (.int .u8 ((zs.getD j 0 : Nat) : Int)) ∧ w.frozen? ⟨g, j, none⟩ = false := by
  have hl : zs.length = n := by have := h.1; rw [nus_length] at this; omega
  refine ⟨?_, h.frozenAt j⟩
  rw [h.cellAt j (by omega), nus_get _ _ _ (by omega)]
theorem set_lt7 {zs : List Nat} (h : ∀ c ∈ zs, c < 256) (j v : Nat) (hv : v < 256) : ∀ c ∈ zs.set j v, c < 256 := by
  intro c hc
  rcases List.mem_or_eq_of_mem_set hc with h1 | rfl
  · exact h c h1
  · exact hv
theorem getD_set (l : List Nat) (i j v : Nat) (h : i < l.length) : (l.set i v).getD j 0 = if j = i then v else l.getD j 0 := by
  simp only [List.getD_eq_getElem?_getD, List.getElem?_set]
  by_cases e : i = j
  · subst e; simp [h]
  · rw [if_neg e, if_neg (fun q => e q.symm)]
theorem sub_set (F : List Nat) (a n i v : Nat) : ((F.set (a + i) v).drop a).take n = ((F.drop a).take n).set i v := by
  rw [List.drop_set, if_neg (by omega), show a + i - a = i by omega, List.take_set]
/-- The segment of TCP: cut, with other lengths of its head, as another protocol's. -/
theorem rt (B : List Nat) (hl : B.length = 24) : fs 6 (B.take 19) = 1 ∧ fs 6 (B.set 12 64) = 3 ∧ fs 6 (B.set 12 112) = 3 ∧ fs 6 (B.set 12 96) = 0 ∧ fs 7 B = 6 := by
  refine ⟨?_, ?_, ?_, ?_, rfl⟩
  · unfold fs; rw [if_pos rfl, if_pos (by simp; omega)]
  all_goals
    have e := getD_set B 12 12
    unfold fs tz
    rw [if_pos rfl, if_neg (by simp; omega), e _ (by omega), if_pos rfl, List.length_set, hl]
    rfl
theorem ru (U : List Nat) (hl : U.length = 12) : fs 17 (U.take 7) = 1 ∧ fs 17 ((U.set 4 0).set 5 7) = 3 ∧ fs 17 ((U.set 4 0).set 5 13) = 3 := by
  refine ⟨?_, ?_, ?_⟩
  · unfold fs; rw [if_neg (by omega), if_pos rfl, if_pos (by simp; omega)]
  all_goals
    unfold fs u2
    have g4 : ∀ x, ((U.set 4 0).set 5 x).getD 4 0 = 0 := fun x => by rw [getD_set _ 5 4 _ (by simp; omega), if_neg (by omega), getD_set _ 4 4 _ (by omega), if_pos rfl]
    have g5 : ∀ x, ((U.set 4 0).set 5 x).getD (4 + 1) 0 = x := fun x => by rw [getD_set _ 5 (4 + 1) _ (by simp; omega), if_pos rfl]
    rw [if_neg (by omega), if_pos rfl, if_neg (by simp; omega), g4, g5]
    simp [hl]
/-- What the switch leaves. -/
def SwRel7 (w : World) (z pt wt : Value) (wx : World) : Prop :=
  Below w.heap.size w wx ∧ (∃ (Z : List Nat) (p f : Nat), pt = .int .u8 (p : Int) ∧ wt = .int .i64 (f : Int) ∧ Rd wx z (nus .u8 Z) ∧ (∀ c ∈ Z, c < 256) ∧ fs p Z = f)
/-- The address of nothing. -/
theorem adr0 : adr false (List.replicate 16 0) = .agg #[Value.bool false, .int .u8 0, .int .u8 0, .int .u8 0, .int .u8 0, .int .u8 0, .int .u8 0, .int .u8 0, .int .u8 0, .int .u8 0, .int .u8 0, .int .u8 0, .int .u8 0, .int .u8 0, .int .u8 0, .int .u8 0, .int .u8 0] := rfl

set_option maxRecDepth 100000 in
set_option maxHeartbeats 8000000 in
theorem reasons7 (n k : Int) (w : World) :
    Calls Try.prog 5 #[.int .i64 n, .int .i64 k] w fun e w' => e = .returned (.bool true) ∧ Below w.heap.size w w' := by
  obtain ⟨u, hu⟩ : ∃ u : Nat, u = (n % 1073741824).toNat := ⟨_, rfl⟩
  have hun : n % 1073741824 = (u : Int) := by omega
  have hul : u < 1073741824 := by omega
  obtain ⟨sp, hsp⟩ : ∃ x, x = 1000 + u % 50000 := ⟨_, rfl⟩
  have hspl : sp < 65536 := by omega
  obtain ⟨s, hs⟩ : ∃ s, s = kS u ++ List.replicate 12 0 := ⟨_, rfl⟩
  obtain ⟨d, hd⟩ : ∃ d, d = kD ++ List.replicate 12 0 := ⟨_, rfl⟩
  have ls : s.length = 16 := by rw [hs]; rfl
  have ld : d.length = 16 := by rw [hd]; rfl
  have bs : ∀ c ∈ s, c < 256 := by rw [hs]; exact kSz_lt u
  have bd : ∀ c ∈ d, c < 256 := by rw [hd]; exact kDz_lt
  have vs : vldA false s = true := by rw [hs]; exact kSz_v false u
  have vd : vldA false d = true := by rw [hd]; exact kDz_v false
  obtain ⟨q, hq⟩ : ∃ q : Nat, q = (k % 9).toNat := ⟨_, rfl⟩
  have hqm : k % 9 = (q : Int) := by omega
  have hql : q < 9 := by omega
  obtain ⟨kt, hkt⟩ : ∃ x, x = kcells 6 (cellsA false s) (cellsA false d) sp 80 := ⟨_, rfl⟩
  obtain ⟨ku, hku⟩ : ∃ x, x = kcells 17 (cellsA false s) (cellsA false d) sp 80 := ⟨_, rfl⟩
  have CK1 := Lib.hid (show ∀ W, Calls Try.prog 17 #[.int .i64 n, .bool false, .bool false] W fun e w' => e = .returned (.agg kt) ∧ Below W.heap.size W w' from fun W => by rw [hkt, hs, hd]; exact key_tcp n false u sp W hun hul hsp)
  have CK2 := Lib.hid (show ∀ W, Calls Try.prog 17 #[.int .i64 n, .bool false, .bool true] W fun e w' => e = .returned (.agg ku) ∧ Below W.heap.size W w' from fun W => by rw [hku, hs, hd]; exact key_udp n false u sp W hun hul hsp)
  have babcd : ∀ c ∈ [97, 98, 99, 100], c < 256 := by decide
  have T1 := told false s d 6 sp 80 2 [97, 98, 99, 100] false (by simp) ls ld vs vd (by decide) hspl (by omega)
  have bF1 := frmB_lt false s d 6 sp 80 2 [97, 98, 99, 100] false false 0 (by omega) ls ld bs bd (by omega) babcd
  have lB1 : (segB 6 false s d sp 80 2 [97, 98, 99, 100] false).length = 24 := by rw [segB_len 6 (by simp)]; rfl
  have f01 : fs 6 (segB 6 false s d sp 80 2 [97, 98, 99, 100] false) = 0 := segB_fs 6 (by simp) false s d sp 80 2 [97, 98, 99, 100] false (by decide)
  obtain ⟨F1, hF1⟩ : ∃ x, x = frmB false s d 6 sp 80 2 [97, 98, 99, 100] false false 0 := ⟨_, rfl⟩
  have CO1 := Lib.hid (show ∀ W b, Rd W (.slice (some ⟨b, 0, none⟩) 4 4) (nus .u8 [97, 98, 99, 100]) → Calls Try.prog 19 #[.agg kt, .slice (some ⟨b, 0, none⟩) 4 4, .bool false] W fun e w' => ∃ g c, e = .returned (.slice (some ⟨g, 34, none⟩) 24 (c - 34)) ∧
      w'.ownsRow W.heap.size 5 1 (.slice (some ⟨g, 0, none⟩) 58 c) 58 (nus .u8 F1) ∧ Below W.heap.size W w' from fun W b h => by
    have q := of_any 6 (by simp) false s d sp 80 (some ⟨b, 0, none⟩) 4 4 [97, 98, 99, 100] false W h rfl (by intro e; cases e) babcd (by omega) ls ld bs bd vs vd hspl (by omega)
    rw [lB1, ← hkt] at q
    rw [hF1]
    exact q)
  obtain ⟨B1, hB1⟩ : ∃ x, x = segB 6 false s d sp 80 2 [97, 98, 99, 100] false := ⟨_, rfl⟩
  have sF1 : F1.drop 34 = B1 := by rw [hF1, hB1]; exact T1.sg
  have lF1 : F1.length = 58 := by rw [hF1, T1.len, lB1]; rfl
  rw [← hB1] at lB1 f01
  rw [← hF1] at bF1
  clear T1
  have T2 := told false s d 17 sp 80 2 [97, 98, 99, 100] false (by simp) ls ld vs vd (by decide) hspl (by omega)
  have bF2 := frmB_lt false s d 17 sp 80 2 [97, 98, 99, 100] false false 0 (by omega) ls ld bs bd (by omega) babcd
  have lB2 : (segB 17 false s d sp 80 2 [97, 98, 99, 100] false).length = 12 := by rw [segB_len 17 (by simp)]; rfl
  have f02 : fs 17 (segB 17 false s d sp 80 2 [97, 98, 99, 100] false) = 0 := segB_fs 17 (by simp) false s d sp 80 2 [97, 98, 99, 100] false (by decide)
  obtain ⟨F2, hF2⟩ : ∃ x, x = frmB false s d 17 sp 80 2 [97, 98, 99, 100] false false 0 := ⟨_, rfl⟩
  have CO2 := Lib.hid (show ∀ W b, Rd W (.slice (some ⟨b, 0, none⟩) 4 4) (nus .u8 [97, 98, 99, 100]) → Calls Try.prog 19 #[.agg ku, .slice (some ⟨b, 0, none⟩) 4 4, .bool false] W fun e w' => ∃ g c, e = .returned (.slice (some ⟨g, 34, none⟩) 12 (c - 34)) ∧
      w'.ownsRow W.heap.size 5 1 (.slice (some ⟨g, 0, none⟩) 46 c) 46 (nus .u8 F2) ∧ Below W.heap.size W w' from fun W b h => by
    have q := of_any 17 (by simp) false s d sp 80 (some ⟨b, 0, none⟩) 4 4 [97, 98, 99, 100] false W h rfl (by intro e; cases e) babcd (by omega) ls ld bs bd vs vd hspl (by omega)
    rw [lB2, ← hku] at q
    rw [hF2]
    exact q)
  obtain ⟨B2, hB2⟩ : ∃ x, x = segB 17 false s d sp 80 2 [97, 98, 99, 100] false := ⟨_, rfl⟩
  have sF2 : F2.drop 34 = B2 := by rw [hF2, hB2]; exact T2.sg
  have lF2 : F2.length = 46 := by rw [hF2, T2.len, lB2]; rfl
  rw [← hB2] at lB2 f02
  rw [← hF2] at bF2
  clear T2
  obtain ⟨e1, e2, e3, e4, e8⟩ := rt B1 lB1
  obtain ⟨e5, e6, e7⟩ := ru B2 lB2
  have bB1 : ∀ c ∈ B1, c < 256 := by rw [← sF1]; exact fun c hc => bF1 c (List.mem_of_mem_drop hc)
  have bB2 : ∀ c ∈ B2, c < 256 := by rw [← sF2]; exact fun c hc => bF2 c (List.mem_of_mem_drop hc)
  have sB1 : (F1.drop 34).take 24 = B1 := by rw [sF1]; exact List.take_of_length_le (by omega)
  have sB2 : (F2.drop 34).take 12 = B2 := by rw [sF2]; exact List.take_of_length_le (by omega)
  have w1 := fun x => (sub_set F1 34 24 12 x).trans (by rw [sB1])
  have w2 := fun x => (sub_set (F2.set 38 0) 34 12 5 x).trans (by rw [show (F2.set 38 0) = F2.set (34 + 4) 0 from rfl, sub_set F2 34 12 4 0, sB2])
  have CR := Lib.hid (fun W z Z p (h : Rd W z (nus .u8 Z)) hb => read_any p z Z W h hb)
  have CD := Lib.hid (show ∀ W z Z (p : Nat), Rd W z (nus .u8 Z) → (∀ c ∈ Z, c < 256) → fs p Z ≠ 0 → Calls Try.prog 13 #[.int .u8 (p : Int), z, .int .u16 5, .agg #[Value.bool false, .int .u8 0, .int .u8 0, .int .u8 0, .int .u8 0, .int .u8 0, .int .u8 0, .int .u8 0, .int .u8 0, .int .u8 0, .int .u8 0, .int .u8 0, .int .u8 0, .int .u8 0, .int .u8 0, .int .u8 0, .int .u8 0], .agg #[Value.bool false, .int .u8 0, .int .u8 0, .int .u8 0, .int .u8 0, .int .u8 0, .int .u8 0, .int .u8 0, .int .u8 0, .int .u8 0, .int .u8 0, .int .u8 0, .int .u8 0, .int .u8 0, .int .u8 0, .int .u8 0, .int .u8 0]] W fun e w' => e = .returned (.slice none 0 0) ∧ Below W.heap.size W w' from fun W z Z p h hb hf => port_no p z Z 5 false (List.replicate 16 0) false (List.replicate 16 0) W h hb (.inl hf))
  have CG := Lib.hid (show ∀ W z Z (p : Nat), Rd W z (nus .u8 Z) → (∀ c ∈ Z, c < 256) → fs p Z ≠ 0 → Calls Try.prog 15 #[.int .u8 (p : Int), z, .agg #[Value.bool false, .int .u8 0, .int .u8 0, .int .u8 0, .int .u8 0, .int .u8 0, .int .u8 0, .int .u8 0, .int .u8 0, .int .u8 0, .int .u8 0, .int .u8 0, .int .u8 0, .int .u8 0, .int .u8 0, .int .u8 0, .int .u8 0], .agg #[Value.bool false, .int .u8 0, .int .u8 0, .int .u8 0, .int .u8 0, .int .u8 0, .int .u8 0, .int .u8 0, .int .u8 0, .int .u8 0, .int .u8 0, .int .u8 0, .int .u8 0, .int .u8 0, .int .u8 0, .int .u8 0, .int .u8 0]] W fun e w' => e = .returned (.bool false) ∧ Below W.heap.size W w' from fun W z Z p h hb hf => good_no p z Z false (List.replicate 16 0) false (List.replicate 16 0) W h hb (.inl hf))
  have CN := Lib.hid (fun W => round_any k 9 W (by omega) (by omega))
  rw [hqm] at CN
  have QS0 := Lib.hid eq_h0
  have kc5 := fun (w : World) (C : Array Value) (n c : Nat) => Lib.run_convert_bytes_const (P := Try.prog) w 22 5 C n c Try.underlying22 Try.underlying5
  have K := Lib.hid (Below.refl w.heap.size w)
  clear hu hun hul hsp hspl hq hqm hs hd ls ld bs bd vs vd hkt hku babcd hF1 hF2 hB1 hB2
  go_enter Try.func5, Try.ntmps5
  go_wp2_with fail
  refine (CK1.out _).mono ?_
  rintro e V1 ⟨rfl, hy⟩
  replace K := Lib.hid (K.out.trans (hy.mono K.out.size))
  clear hy
  have b8 := (Below.refl V1.heap.size V1).alloc (Nat.le_refl _) (.cells (nus .u8 [97, 98, 99, 100]).toArray 5 (4, 5))
  have R8 := Lib.hid (rd_lit V1 .u8 5 [97, 98, 99, 100] 4 (4, 5) rfl (by simp [maxLen]))
  replace K := Lib.hid (K.out.trans (b8.mono K.out.size))
  clear b8
  have hm1 := K.out.size
  go_wp2_with fail
  refine (CO1.out _ _ R8.out).mono ?_
  rintro e V2 ⟨g1, c1, rfl, o1, hy⟩
  replace K := Lib.hid (K.out.trans (hy.mono K.out.size))
  have O1 := Lib.hid (o1)
  clear o1 R8
  clear hy
  obtain ⟨_, _, q1, hc1, hx1, hg1, hgl1⟩ := own_at O1.out (by omega)
  cases q1
  have hk1 := K.out.size
  go_wp2_with fail
  refine (CK2.out _).mono ?_
  rintro e V3 ⟨rfl, hy⟩
  replace K := Lib.hid (K.out.trans (hy.mono K.out.size))
  replace O1 := Lib.hid (row_under O1.out hy)
  clear hy
  have b8 := (Below.refl V3.heap.size V3).alloc (Nat.le_refl _) (.cells (nus .u8 [97, 98, 99, 100]).toArray 5 (4, 5))
  have R8 := Lib.hid (rd_lit V3 .u8 5 [97, 98, 99, 100] 4 (4, 5) rfl (by simp [maxLen]))
  replace K := Lib.hid (K.out.trans (b8.mono K.out.size))
  replace O1 := Lib.hid (row_under O1.out b8)
  clear b8
  have hm2 := K.out.size
  go_wp2_with fail
  refine (CO2.out _ _ R8.out).mono ?_
  rintro e V4 ⟨g2, c2, rfl, o2, hy⟩
  replace K := Lib.hid (K.out.trans (hy.mono K.out.size))
  replace O1 := Lib.hid (row_under O1.out hy)
  have O2 := Lib.hid (o2)
  clear o2 R8
  clear hy
  obtain ⟨_, _, q2, hc2, hx2, hg2, hgl2⟩ := own_at O2.out (by omega)
  cases q2
  have hk2 := K.out.size
  go_wp2_with fail
  refine (CN.out _).mono ?_
  rintro e V5 ⟨rfl, rfl⟩
  have hw1 : w.heap.size ≤ g1 := by omega
  have hw2 : w.heap.size ≤ g2 := by omega
  go_upto_block 0 with fail
  go_cut [5, 7, 8] (fun z pt wt wx => SwRel7 w z pt wt wx)
  case first =>
    have hq9 : q = 0 ∨ q = 1 ∨ q = 2 ∨ q = 3 ∨ q = 4 ∨ q = 5 ∨ q = 6 ∨ q = 7 ∨ q = 8 := by omega
    rcases hq9 with rfl | rfl | rfl | rfl | rfl | rfl | rfl | rfl | rfl
    · have r1 := own_sub O1.out (at0 := 34) (n := 24) rfl
      rw [sB1] at r1
      have R1 := Lib.hid r1
      clear r1
      go_wp2_with fail
      go_meet
      case rel => exact ⟨K.out, B1, 6, 0, rfl, rfl, R1.out, bB1, f01⟩
    · have r1 := own_sub O1.out (at0 := 34) (n := 24) rfl
      rw [sB1] at r1
      have R1 := Lib.hid r1
      clear r1
      go_wp2_with fail
      go_meet
      case rel => exact ⟨K.out, B1.take 19, 6, 1, rfl, rfl, R1.out.front 19 (by omega), fun c hc => bB1 c (List.mem_of_mem_take hc), e1⟩
    · have c0 := (own_cell7 O1.out 46 (by omega)).1
      have f0 := (own_cell7 O1.out 46 (by omega)).2
      generalize F1.getD 46 0 = y46 at c0
      have p0 := own_put7 O1.out 46 64
      have h0 := Lib.hid (K.out.grown p0.2 K.out.size (fun k e => by cases e; exact hw1))
      have r0 := own_sub p0.1 (at0 := 34) (n := 24) rfl
      rw [show F1.set 46 64 = F1.set (34 + 12) 64 from rfl, w1 64] at r0
      have R0 := Lib.hid r0
      clear p0 r0
      go_wp2_with fail
      go_meet
      case rel => exact ⟨h0.out, B1.set 12 64, 6, 3, rfl, rfl, R0.out, set_lt7 bB1 12 64 (by omega), e2⟩
    · have c0 := (own_cell7 O1.out 46 (by omega)).1
      have f0 := (own_cell7 O1.out 46 (by omega)).2
      generalize F1.getD 46 0 = y46 at c0
      have p0 := own_put7 O1.out 46 112
      have h0 := Lib.hid (K.out.grown p0.2 K.out.size (fun k e => by cases e; exact hw1))
      have r0 := own_sub p0.1 (at0 := 34) (n := 24) rfl
      rw [show F1.set 46 112 = F1.set (34 + 12) 112 from rfl, w1 112] at r0
      have R0 := Lib.hid r0
      clear p0 r0
      go_wp2_with fail
      go_meet
      case rel => exact ⟨h0.out, B1.set 12 112, 6, 3, rfl, rfl, R0.out, set_lt7 bB1 12 112 (by omega), e3⟩
    · have c0 := (own_cell7 O1.out 46 (by omega)).1
      have f0 := (own_cell7 O1.out 46 (by omega)).2
      generalize F1.getD 46 0 = y46 at c0
      have p0 := own_put7 O1.out 46 96
      have h0 := Lib.hid (K.out.grown p0.2 K.out.size (fun k e => by cases e; exact hw1))
      have r0 := own_sub p0.1 (at0 := 34) (n := 24) rfl
      rw [show F1.set 46 96 = F1.set (34 + 12) 96 from rfl, w1 96] at r0
      have R0 := Lib.hid r0
      clear p0 r0
      go_wp2_with fail
      go_meet
      case rel => exact ⟨h0.out, B1.set 12 96, 6, 0, rfl, rfl, R0.out, set_lt7 bB1 12 96 (by omega), e4⟩
    · have r1 := own_sub O2.out (at0 := 34) (n := 12) rfl
      rw [sB2] at r1
      have R1 := Lib.hid r1
      clear r1
      go_wp2_with fail
      go_meet
      case rel => exact ⟨K.out, B2.take 7, 17, 1, rfl, rfl, R1.out.front 7 (by omega), fun c hc => bB2 c (List.mem_of_mem_take hc), e5⟩
    · have c4 := (own_cell7 O2.out 38 (by omega)).1
      have f4 := (own_cell7 O2.out 38 (by omega)).2
      generalize F2.getD 38 0 = y38 at c4
      have p4 := own_put7 O2.out 38 0
      have p4 : (V4.setCell ⟨g2, 38, none⟩ (.int .u8 0)).ownsRow _ 5 1 (.slice (some ⟨g2, 0, none⟩) 46 c2) 46 (nus .u8 (F2.set 38 0)) ∧ V4.grownBy (V4.setCell ⟨g2, 38, none⟩ (.int .u8 0)) (some g2) := p4
      have c5 := (own_cell7 p4.1 39 (by omega)).1
      have f5 := (own_cell7 p4.1 39 (by omega)).2
      generalize (F2.set 38 0).getD 39 0 = y39 at c5
      have p5 := own_put7 p4.1 39 7
      have h0 := Lib.hid ((K.out.grown p4.2 K.out.size (fun k e => by cases e; exact hw2)).grown p5.2 (by have := p4.2.size; omega) (fun k e => by cases e; exact hw2))
      have r0 := own_sub p5.1 (at0 := 34) (n := 12) rfl
      rw [show (F2.set 38 0).set 39 7 = (F2.set 38 0).set (34 + 5) 7 from rfl, w2 7] at r0
      have R0 := Lib.hid r0
      clear p4 p5 r0
      go_wp2_with fail
      go_meet
      case rel => exact ⟨h0.out, (B2.set 4 0).set 5 7, 17, 3, rfl, rfl, R0.out, set_lt7 (set_lt7 bB2 4 0 (by omega)) 5 7 (by omega), e6⟩
    · have c4 := (own_cell7 O2.out 38 (by omega)).1
      have f4 := (own_cell7 O2.out 38 (by omega)).2
      generalize F2.getD 38 0 = y38 at c4
      have p4 := own_put7 O2.out 38 0
      have p4 : (V4.setCell ⟨g2, 38, none⟩ (.int .u8 0)).ownsRow _ 5 1 (.slice (some ⟨g2, 0, none⟩) 46 c2) 46 (nus .u8 (F2.set 38 0)) ∧ V4.grownBy (V4.setCell ⟨g2, 38, none⟩ (.int .u8 0)) (some g2) := p4
      have c5 := (own_cell7 p4.1 39 (by omega)).1
      have f5 := (own_cell7 p4.1 39 (by omega)).2
      generalize (F2.set 38 0).getD 39 0 = y39 at c5
      have p5 := own_put7 p4.1 39 13
      have h0 := Lib.hid ((K.out.grown p4.2 K.out.size (fun k e => by cases e; exact hw2)).grown p5.2 (by have := p4.2.size; omega) (fun k e => by cases e; exact hw2))
      have r0 := own_sub p5.1 (at0 := 34) (n := 12) rfl
      rw [show (F2.set 38 0).set 39 13 = (F2.set 38 0).set (34 + 5) 13 from rfl, w2 13] at r0
      have R0 := Lib.hid r0
      clear p4 p5 r0
      go_wp2_with fail
      go_meet
      case rel => exact ⟨h0.out, (B2.set 4 0).set 5 13, 17, 3, rfl, rfl, R0.out, set_lt7 (set_lt7 bB2 4 0 (by omega)) 5 13 (by omega), e7⟩
    · have r1 := own_sub O1.out (at0 := 34) (n := 24) rfl
      rw [sB1] at r1
      have R1 := Lib.hid r1
      clear r1
      go_wp2_with fail
      go_meet
      case rel => exact ⟨K.out, B1, 7, 6, rfl, rfl, R1.out, bB1, e8⟩
  case rest =>
    obtain ⟨hK, Z, p, f, rfl, rfl, hr, hb, hff⟩ := hcut
    replace K := Lib.hid hK
    have R := Lib.hid hr
    have FF := Lib.hid hff
    clear hK hr hff O1 O2
    by_cases hf0 : f = 0
    · have CR2 := CR.out _ _ Z p R.out hb
      subst hf0
      rw [FF.out] at CR2
      have zh := hs7_size p Z
      have Zh := Lib.hid (i30.trans (congrArg some zh.symm))
      have Yh : Hid ((hs7 p Z).size = Array.size (#[Value.int .u16 0, .int .u16 0, .int .u8 0] : Array Value)) := zh
      have Ah := Lib.hid (hs7_all p Z)
      generalize hs7 p Z = hdc at *
      clear zh CR
      replace CR2 := Lib.hid CR2
      go_wp2_with fail
      refine (CR2.out).mono ?_
      rintro e V6 ⟨rfl, hy⟩
      replace K := Lib.hid (K.out.trans (hy.mono K.out.size))
      replace R := Lib.hid (R.out.below hy)
      clear hy
      go_wp2_with (((with_reducible refine wpList_blk_store (op := ⟨none, .store 30 (.tmp 9) (.tmp 71), _, _, _, _⟩) ?sg1 30 (.tmp 9) (.tmp 71) ?so1 (V6.heap.size) hdc ?sx1 ?sy1 (Blk.new V6 30 #[Value.int .u16 0, .int .u16 0, .int .u8 0]) Yh.out Zh.out Ah.out ?_); (case sg1 => rfl); (case so1 => rfl); (case sx1 => rfl); (case sy1 => rfl)))
      intro V7 hA hF hB
      have hy := ((Below.refl V6.heap.size V6).alloc (Nat.le_refl _) (.cells #[Value.int .u16 0, .int .u16 0, .int .u8 0] 30)).trans (hB _ (Nat.le_refl _))
      replace K := Lib.hid (K.out.trans (hy.mono K.out.size))
      replace R := Lib.hid (R.out.below hy)
      have NH := Lib.hid hA
      clear hA hF hB hy
      go_wp2_with fail
      refine (awake_any _).mono ?_
      rintro e V8 ⟨rfl, hy⟩
      replace K := Lib.hid (K.out.trans (hy.mono K.out.size))
      replace R := Lib.hid (R.out.below hy)
      replace NH := Lib.hid (NH.out.below hy NH.out.lt)
      clear hy
      go_wp2
      go_ret
      exact ⟨rfl, K.out⟩
    · have CR2 := CR.out _ _ Z p R.out hb
      have HF0 : Hid (f ≠ 0) := hf0
      have hd0 : ((f : Int) == 0) = false := by rw [beq_eq_false_iff_ne]; omega
      rw [FF.out, show hs7 p Z = #[Value.int .u16 0, .int .u16 0, .int .u8 0] from by unfold hs7; rw [if_neg (by rw [FF.out]; exact HF0.out)]] at CR2
      obtain ⟨hdc, hh⟩ : ∃ x : Array Value, x = #[Value.int .u16 0, .int .u16 0, .int .u8 0] := ⟨_, rfl⟩
      rw [← hh] at CR2
      have zh : hdc.size = 3 := by rw [hh]; rfl
      have Zh := Lib.hid (i30.trans (congrArg some zh.symm))
      have Yh : Hid (hdc.size = Array.size (#[Value.int .u16 0, .int .u16 0, .int .u8 0] : Array Value)) := zh
      have Ah := Lib.hid (show hdc.all (·.oneCell') = true by rw [hh]; simp [Value.oneCell'])
      have QH := Lib.hid (show ∀ W, (Op.equalIn 10000 30 (.agg hdc) (.agg #[Value.int .u16 0, .int .u16 0, .int .u8 0])).run Try.prog W = .ok true W by rw [hh]; exact QS0.out)
      clear CR hf0 hh zh
      replace CR2 := Lib.hid CR2
      go_wp2_with fail
      refine (CR2.out).mono ?_
      rintro e V6 ⟨rfl, hy⟩
      replace K := Lib.hid (K.out.trans (hy.mono K.out.size))
      replace R := Lib.hid (R.out.below hy)
      clear hy
      go_wp2_with (((with_reducible refine wpList_blk_store (op := ⟨none, .store 30 (.tmp 9) (.tmp 71), _, _, _, _⟩) ?sg2 30 (.tmp 9) (.tmp 71) ?so2 (V6.heap.size) hdc ?sx2 ?sy2 (Blk.new V6 30 #[Value.int .u16 0, .int .u16 0, .int .u8 0]) Yh.out Zh.out Ah.out ?_); (case sg2 => rfl); (case so2 => rfl); (case sx2 => rfl); (case sy2 => rfl)))
      intro V7 hA hF hB
      have hy := ((Below.refl V6.heap.size V6).alloc (Nat.le_refl _) (.cells #[Value.int .u16 0, .int .u16 0, .int .u8 0] 30)).trans (hB _ (Nat.le_refl _))
      replace K := Lib.hid (K.out.trans (hy.mono K.out.size))
      replace R := Lib.hid (R.out.below hy)
      have NH := Lib.hid hA
      clear hA hF hB hy
      replace QH := QH.out
      have L3 : (loadVar 30 ⟨V6.heap.size, 0, none⟩).run Try.prog V7 = .ok (.agg hdc) V7 := run_blk_load (P := Try.prog) 30 (V6.heap.size) _ NH.out Try.underlying30 rfl Zh.out
      replace L3 := Lib.hid L3
      go_wp2_with (((with_reducible refine wpList_load_want (op := ⟨some 80, .load 30 (.tmp 9), _, _, _, _⟩) ?wg3 30 (.tmp 9) ?wo3 ⟨V6.heap.size, 0, none⟩ ?wx3 (.agg hdc) L3.out ?_); (case wg3 => rfl); (case wo3 => rfl); (case wx3 => rfl)))
      clear L3
      refine (CD.out _ _ Z p R.out hb (by rw [FF.out]; exact HF0.out)).mono ?_
      rintro e V8 ⟨rfl, hy⟩
      replace K := Lib.hid (K.out.trans (hy.mono K.out.size))
      replace R := Lib.hid (R.out.below hy)
      replace NH := Lib.hid (NH.out.below hy NH.out.lt)
      clear hy
      go_wp2_with fail
      refine (CG.out _ _ Z p R.out hb (by rw [FF.out]; exact HF0.out)).mono ?_
      rintro e V9 ⟨rfl, hy⟩
      replace K := Lib.hid (K.out.trans (hy.mono K.out.size))
      replace R := Lib.hid (R.out.below hy)
      replace NH := Lib.hid (NH.out.below hy NH.out.lt)
      clear hy
      go_wp2_with fail
      refine (awake_any _).mono ?_
      rintro e V10 ⟨rfl, hy⟩
      replace K := Lib.hid (K.out.trans (hy.mono K.out.size))
      replace R := Lib.hid (R.out.below hy)
      replace NH := Lib.hid (NH.out.below hy NH.out.lt)
      clear hy
      go_wp2
      go_ret
      exact ⟨rfl, K.out⟩
end Go.Proofs.Ytbhiknojjmdbiaa

