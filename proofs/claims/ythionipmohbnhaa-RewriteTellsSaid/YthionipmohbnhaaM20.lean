/- Texts that the walks of this seat lean on, put together. -/
import Derived.LoopTactic
import Derived.Test.YthionipmohbnhaaTk
import Derived.Test.YthionipmohbnhaaM03
import Derived.Test.YthionipmohbnhaaM04
import Derived.Test.YthionipmohbnhaaM06
import Derived.Test.YthionipmohbnhaaM08
import Derived.Test.YthionipmohbnhaaM09
namespace Go.Proofs.Ythionipmohbnhaa
open Go.RowKit
set_option maxRecDepth 100000 in
theorem hcells_dst (s l p : Nat) (S D : Array Value) (hS : S.size = 17) : ((hcells s l p S D).toList.drop 20).take D.toList.length = D.toList := by
  have e : (hcells s l p S D).toList.drop 20 = D.toList := by
    unfold hcells
    show (S.toList ++ D.toList).drop 17 = D.toList
    rw [List.drop_append, List.drop_eq_nil_of_le (by simp [hS])]
    simp [hS]
  rw [e, List.take_length]
set_option maxRecDepth 100000 in
theorem hd_size' (zs : List Nat) : (hd zs).size = 37 := by
  unfold hd
  split
  · exact hcells_size _ _ _ _ _ (a4_size _ (by simp; omega)) (a4_size _ (by simp; omega))
  · rfl
set_option maxRecDepth 100000 in
theorem hd_all (zs : List Nat) : (hd zs).all (·.oneCell') = true := by
  unfold hd
  split
  · exact hcells_all _ _ _ _ _ (a4_all _) (a4_all _)
  · exact h0_all
set_option maxRecDepth 100000 in
theorem set2_ov (B : List Nat) (k v : Nat) (h : k + 2 ≤ B.length) (hv : v < 65536) : (B.set k (v / 256)).set (k + 1) (v % 256) = ov B (bg 2 v) k := by
  refine ext_getD _ _ 0 (by rw [ov_length _ _ _ (by rw [bg_length]; exact h)]; simp) fun i hi => ?_
  have hi : i < B.length := by simpa using hi
  have e : v / 256 % 256 = v / 256 := by omega
  rw [ov_get _ _ _ _ (by rw [bg_length]; exact h), bg_length]
  have h1 : ((B.set k (v / 256)).set (k + 1) (v % 256)).getD i 0 = if k + 1 = i then v % 256 else if k = i then v / 256 else B.getD i 0 := by
    simp only [List.getD_eq_getElem?_getD, List.getElem?_set, List.length_set]
    by_cases e1 : k + 1 = i
    · subst e1
      simp [hi]
    · by_cases e2 : k = i
      · subst e2
        simp [hi]
      · simp [e1, e2]
  rw [h1]
  by_cases e1 : k + 1 = i
  · subst e1
    rw [if_pos rfl, if_pos (by omega), show k + 1 - k = 1 from by omega]; rfl
  · by_cases e2 : k = i
    · subst e2
      rw [if_neg e1, if_pos rfl, if_pos (by omega), Nat.sub_self, ← e]; rfl
    · rw [if_neg e1, if_neg e2, if_neg (by omega)]
set_option maxRecDepth 100000 in
theorem ov_step (B T : List Nat) (k j : Nat) (h : k + T.length ≤ B.length) (hj : j < T.length) : (ov B (T.take j) k).set (k + j) (T.getD j 0) = ov B (T.take (j + 1)) k := by
  have l1 : (T.take j).length = j := by simp; omega
  have l2 : (T.take (j + 1)).length = j + 1 := by simp; omega
  refine ext_getD _ _ 0 (by rw [List.length_set, ov_length _ _ _ (by omega), ov_length _ _ _ (by omega)]) fun i hi => ?_
  have hi : i < B.length := by simpa [ov_length _ _ _ (show k + (T.take j).length ≤ B.length by omega)] using hi
  have h1 : ((ov B (T.take j) k).set (k + j) (T.getD j 0)).getD i 0 = if k + j = i then T.getD j 0 else (ov B (T.take j) k).getD i 0 := by
    by_cases e : k + j = i
    · subst e
      rw [if_pos rfl]
      simp only [List.getD_eq_getElem?_getD]
      rw [List.getElem?_set_self (by rw [ov_length _ _ _ (by omega)]; exact hi)]
      rfl
    · rw [if_neg e]
      simp only [List.getD_eq_getElem?_getD]
      rw [List.getElem?_set_ne e]
  rw [h1, ov_get _ _ _ _ (by omega), ov_get _ _ _ _ (by omega), l1, l2]
  have ht : ∀ m q, q < m → (T.take m).getD q 0 = T.getD q 0 := fun m q hq => by simp [List.getD_eq_getElem?_getD, hq]
  by_cases e1 : k + j = i
  · rw [if_pos e1, if_pos (by omega), ht _ _ (by omega)]; congr 1; omega
  · rw [if_neg e1]
    by_cases e2 : k ≤ i ∧ i < k + j
    · rw [if_pos e2, if_pos (by omega), ht _ _ (by omega), ht _ _ (by omega)]
    · rw [if_neg e2, if_neg (by omega)]
set_option maxRecDepth 100000 in
theorem ov_nil (B : List Nat) (k : Nat) : ov B [] k = B := by simp [ov]
set_option maxRecDepth 100000 in
set_option maxHeartbeats 4000000 in
theorem rdest4_yes (v : Value) (zs : List Nat) (bs : List Nat) (w : World) (hr : Rd w v (nus .u8 zs)) (hb : ∀ c ∈ zs, c < 256) (h : ff zs = 0) (hz : zs.length ≤ 3000) (hl : bs.length = 16) (hbb : ∀ c ∈ bs, c < 256) :
    Calls Try.prog 26 #[v, adr false bs] w fun e w' => ∃ x, e = .returned x ∧ w'.ownsRow w.heap.size 5 1 x zs.length (nus .u8 (dst4 zs (bs.take 4))) ∧ Below w.heap.size w w' := by
  obtain ⟨h20, -, -, -, -, -, -, -⟩ := ff_yes zs h
  obtain ⟨a, cap, rfl, hlc, hlm⟩ := rd_shape hr
  obtain ⟨b, off, rfl, hce⟩ := hr.cells (by omega)
  have hHl : (bs.take 4).length = 4 := by simp; omega
  have hOl : ((zs.drop 16).take 4).length = 4 := by simp; omega
  have hHb : ∀ c ∈ bs.take 4, c < 256 := fun c hc => hbb c (List.mem_of_mem_take hc)
  have CB := Lib.hid (fun w' => rbytes_own false bs hl w')
  unfold bytesA at CB
  rw [if_neg (by decide), hHl] at CB
  unfold adr at CB ⊢
  have CO := Lib.hid (fun w' => rbytes_own false ((zs.drop 16).take 4 ++ List.replicate (16 - ((zs.drop 16).take 4).length) 0) (by simp [hOl]) w')
  unfold bytesA at CO
  have e4 : ((zs.drop 16).take 4 ++ List.replicate (16 - ((zs.drop 16).take 4).length) 0).take 4 = (zs.drop 16).take 4 := by
    rw [List.take_append_of_le_length (by omega), List.take_of_length_le (by omega)]
  have e5 : adr false ((zs.drop 16).take 4 ++ List.replicate (16 - ((zs.drop 16).take 4).length) 0) = .agg (a4 ((zs.drop 16).take 4)) := rfl
  rw [if_neg (by decide), e4, e5, hOl] at CO
  obtain ⟨c, hc⟩ : ∃ c, c = cellsA false bs := ⟨_, rfl⟩
  have hc0 : c[0]? = some (.bool false) := by rw [hc]; exact cellsA_head _ _
  have hcz : c.size = 17 := by rw [hc, cellsA_size, hl]
  rw [← hc] at CB ⊢
  have I := Lib.hid (i24.trans (congrArg some hcz.symm))
  have B0 := (Below.refl w.heap.size w).alloc (Nat.le_refl _) (.cells c 25)
  have HF := Lib.hid (rfour_any _ zs _ (hr.below B0) hb hz)
  rw [h] at HF
  have HN := Lib.hid (Blk.new w 25 c)
  have HB := Lib.hid B0
  have HR := Lib.hid hr
  have C16 := Lib.hid (fun w' (h : Rd w' (.slice (some ⟨b, off, none⟩) zs.length cap) (nus .u8 zs)) => (be16_any _ _ _ 10 zs w' h hb (by omega)).mono fun e w1 hh => show e = .returned (.int .i64 (u2 zs 10 : Nat)) ∧ Below w'.heap.size w' w1 from ⟨hh.1, by obtain ⟨k, rfl⟩ := hh.2; exact below_drewN (Below.refl _ _) k⟩)
  have CG := Lib.hid (fun w' z1 z2 (h1 : Rd w' z1 (nus .u8 ((zs.drop 16).take 4))) (h2 : Rd w' z2 (nus .u8 (bs.take 4))) => (rchange_any (u2 zs 10) z1 z2 _ _ w' h1 h2 (by omega) (by omega) (fun c hc => hb c (List.mem_of_mem_drop (List.mem_of_mem_take hc))) hHb (u2_lt zs 10 hb)).mono fun e w1 hh => show e = .returned (.int .i64 (chA (u2 zs 10) ((zs.drop 16).take 4) (bs.take 4) : Nat)) ∧ Below w'.heap.size w' w1 from ⟨hh.1, by obtain ⟨k, rfl⟩ := hh.2; exact below_drewN (Below.refl _ _) k⟩)
  have hV : chA (u2 zs 10) ((zs.drop 16).take 4) (bs.take 4) < 65536 := chA_lt _ _ _ (u2_lt zs 10 hb)
  have HS2 := Lib.hid (set2_ov zs 10 (chA (u2 zs 10) ((zs.drop 16).take 4) (bs.take 4)) (by omega) hV)
  have HD : Hid (dst4 zs (bs.take 4) = ov (ov zs (bg 2 (chA (u2 zs 10) ((zs.drop 16).take 4) (bs.take 4))) 10) (bs.take 4) 16) := rfl
  have HZL : Hid ((ov zs (bg 2 (chA (u2 zs 10) ((zs.drop 16).take 4) (bs.take 4))) 10).length = zs.length) := ov_length _ _ _ (by rw [bg_length]; omega)
  have HHl := Lib.hid hHl
  have HHB := Lib.hid (getD_lt _ hHb)
  have hsz := hd_size' zs
  have hPart : ((hd zs).toList.drop 20).take (a4 ((zs.drop 16).take 4)).toList.length = (a4 ((zs.drop 16).take 4)).toList := by
    have e : hd zs = hcells (hs zs) (u2 zs 2) (zs.getD 9 0) (a4 ((zs.drop 12).take 4)) (a4 ((zs.drop 16).take 4)) := by unfold hd; rw [if_pos h]
    rw [e]
    exact hcells_dst _ _ _ _ _ (a4_size _ (by simp; omega))
  have hDz := a4_size ((zs.drop 16).take 4) (by omega)
  have ID := Lib.hid (i24.trans (congrArg some (show (17 : Nat) = (a4 ((zs.drop 16).take 4)).toList.length by simp [hDz])))
  have Z32 := Lib.hid (i32.trans (congrArg some hsz.symm))
  have Z9 : Hid ((hd zs).size = Array.size (Zc37 : Array Value)) := hsz
  have A := Lib.hid (hd_all zs)
  have HP := Lib.hid hPart
  generalize dst4 zs (bs.take 4) = RES at *
  generalize ov zs (bg 2 (chA (u2 zs 10) ((zs.drop 16).take 4) (bs.take 4))) 10 = PR at *
  generalize chA (u2 zs 10) ((zs.drop 16).take 4) (bs.take 4) = V at *
  generalize a4 ((zs.drop 16).take 4) = D at *
  generalize (zs.drop 16).take 4 = OD at *
  generalize bs.take 4 = T at *
  generalize u2 zs 10 = O at *
  generalize hd zs = hdc at *
  have HNz := Lib.hid (show zs.length ≤ 3000 from hz)
  obtain ⟨n, hn⟩ : ∃ n, n = zs.length := ⟨_, rfl⟩
  rw [← hn] at HF HR C16 HZL hlc h20 HNz ⊢
  have hnm : n ≤ maxLen := by omega
  have hn2 : n ≤ 3000 := HNz.out
  have HN9 := Lib.hid hn
  unfold maxLen at hlm
  clear e4 e5 hr hb hc B0 hcz hce h hz hl hbb hHl hOl hHb hn hsz hPart hDz
  go_enter Try.func26, Try.ntmps26
  go_wp2_with fail
  refine HF.out.mono ?_; rintro e W1 ⟨rfl, hb⟩
  have N1 := Lib.hid (HN.out.below hb HN.out.lt)
  have K1 := Lib.hid (HB.out.trans (hb.mono HB.out.size))
  clear hb HN HB HF
  go_wp2_with (((with_reducible refine wpList_blk_store (op := ⟨none, .store 67 (.tmp 5) (.tmp 13), _, _, _, _⟩) ?sg1 67 (.tmp 5) (.tmp 13) ?so1 (W1.heap.size) hdc ?sx1 ?sy1 (Blk.new W1 67 Zc37) Z9.out Z32.out A.out ?_); (case sg1 => rfl); (case so1 => rfl); (case sx1 => rfl); (case sy1 => rfl)))
  intro W2 hA hF hB
  have K2 := Lib.hid ((K1.out.alloc K1.out.size (.cells Zc37 67)).trans (hB _ K1.out.size))
  have n2 := (N1.out.alloc (.cells Zc37 67)).below (hB _ (Nat.le_refl _)) N1.out.lt
  have hc1 := n2.cell 0
  rw [hc0] at hc1
  have N2 := Lib.hid n2
  have A2 := Lib.hid hA
  have ha2 := hA.lt
  have hn2' := n2.lt
  have R2 := Lib.hid (HR.out.below K2.out)
  clear hA hF hB K1 N1 hc0 n2 Z9 Z32 A HR
  have o3 := own_none W2 5
  have b3 := (Below.refl W2.heap.size W2).alloc (Nat.le_refl _) (.cells #[] 5)
  have O3 := Lib.hid o3
  have K3 := Lib.hid b3
  have R3 := Lib.hid (R2.out.below b3)
  clear o3 b3
  go_wp2_with (at_builtin; refine wpList_app rfl (.tmp 21) (.tmp 22) rfl W2.heap.size _ 0 [] rfl O3.out (some _) n cap zs rfl R3.out ?c1 ?c2 ?c3 ?c4)
  case c1 => intro e; cases e
  case c2 => omega
  case c3 => exact K3.out.size
  intro v4 W4 o4 g4
  have K4 := Lib.hid (K3.out.grown g4 K3.out.size (fun k e => (O3.out.lt k e).1))
  have O4 := Lib.hid (show W4.ownsRow W2.heap.size 5 1 v4 n (nus .u8 zs) from by simpa using o4)
  obtain ⟨g, cap2, rfl, hc2, hcm2, hgl, hgu⟩ := own_at O4.out (by omega)
  clear o4 g4 O3 K3 R3 hc1
  go_wp2_with (((with_reducible refine wpList_blk_load (op := ⟨some 24, .load 25 (.tmp 3), _, _, _, _⟩) ?lg2 25 (.tmp 3) ?lo2 (w.heap.size) ?lx2 _ (N2.out.below K4.out hn2') Try.underlying25 ?ld2 I.out ?_); (case lg2 => rfl); (case lo2 => rfl); (case lx2 => rfl); (case ld2 => rfl)))
  refine (CB.out W4).mono ?_
  rintro e W5 ⟨z1, rfl, hz1, hy⟩
  have K5 := Lib.hid (K4.out.trans (hy.mono K4.out.size))
  have O5 := Lib.hid (row_under O4.out hy)
  have T5 := Lib.hid hz1
  clear hy hz1 O4 K4 CB
  go_wp2_with fail
  refine wp_region_held (S := (fun w' : World => Below W2.heap.size W2 w')) (by kernel_rfl) ?_
  change wpAnyH _ _ _ _ _ _ _ _ W5.drew
  have hE0 : Below W2.heap.size W2 W5.drew := K5.out.drew
  have qO6 := row_under O5.out (show Below W5.heap.size W5 W5.drew from (Below.refl _ _).drew)
  have qT6 := row_under T5.out (show Below W5.heap.size W5 W5.drew from (Below.refl _ _).drew)
  generalize W5.drew = Y0 at hE0 qO6 qT6 ⊢
  have E0 := Lib.hid hE0
  have O6 := Lib.hid qO6
  have T6 := Lib.hid qT6
  clear hE0 qO6 qT6
  refine tkA 0 (?_) ?_ E0.out ?_
  rotate_left
  · (intro w1 hS; go_simp; try with_reducible rfl)
  simp only [Act.put, tS1, tS2, tS3]
  refine tkA 1 (?_) ?_ E0.out ?_
  rotate_left
  · (intro w1 hS; go_simp; try with_reducible rfl)
  simp only [Act.put, tS1, tS2, tS3]
  refine tkA 3 (?_) ?_ E0.out ?_
  rotate_left
  · (intro w1 hS; go_simp; try with_reducible rfl)
  simp only [Act.put, tS1, tS2, tS3]
  refine tkA 4 (.agg D) ?_ E0.out ?_
  · (intro w1 hS; have hW := hS; exact exec_load 25 (.tmp 29) rfl _ rfl _ (run_part_load (P := Try.prog) 25 20 D.toList _ (A2.out.below hW ha2) HP.out Try.underlying25 rfl ID.out))
  simp only [Act.put, tS1, tS2, tS3]
  refine tkA 6 (?_) ?_ E0.out ?_
  rotate_left
  · (intro w1 hS; go_simp; try with_reducible rfl)
  simp only [Act.put, tS1, tS2, tS3]
  refine tkO 2 (fun K hK => ?_)
  go_simp
  refine (C16.out Y0 (R2.out.below E0.out)).mono ?_
  rintro e Y1 ⟨rfl, hy⟩
  have E1 := Lib.hid (E0.out.trans (hy.mono (Nat.le_trans (Nat.le_refl _) E0.out.size)))
  have C1 := Lib.hid E1.out
  have O7 := Lib.hid (row_under O6.out hy)
  have T7 := Lib.hid (row_under T6.out hy)
  clear O6 T6
  clear hy E0
  refine hK.out _ _ C1.out (fun _ => ?_)
  clear hK K
  try simp only [Act.put, tS1, tS2, tS3]
  clear C1
  refine tkO 5 (fun K hK => ?_)
  go_simp
  refine (CO.out Y1).mono ?_
  rintro e Y2 ⟨z2, rfl, hz2, hy⟩
  have E2 := Lib.hid (E1.out.trans (hy.mono (Nat.le_trans (Nat.le_refl _) E1.out.size)))
  have C2 := Lib.hid E2.out
  have O8 := Lib.hid (row_under O7.out hy)
  have T8 := Lib.hid (row_under T7.out hy)
  have D8 := Lib.hid hz2
  clear O7 T7 hz2
  clear hy E1
  refine hK.out _ _ C2.out (fun _ => ?_)
  clear hK K
  try simp only [Act.put, tS1, tS2, tS3]
  clear C2
  refine tkO 7 (fun K hK => ?_)
  go_simp
  refine (CG.out Y2 z2 z1 (Rd.own D8.out) (Rd.own T8.out)).mono ?_
  rintro e Y3 ⟨rfl, hy⟩
  have E3 := Lib.hid (E2.out.trans (hy.mono (Nat.le_trans (Nat.le_refl _) E2.out.size)))
  have C3 := Lib.hid E3.out
  have O9 := Lib.hid (row_under O8.out hy)
  have T9 := Lib.hid (row_under T8.out hy)
  clear O8 T8 D8
  clear hy E2
  refine hK.out _ _ C3.out (fun _ => ?_)
  clear hK K
  try simp only [Act.put, tS1, tS2, tS3]
  clear C3
  refine tkO 8 (fun K hK => ?_)
  go_simp
  refine (rput16_any g n cap2 W2.heap.size 10 V zs Y3 O9.out hnm (by omega) hV).mono ?_
  rintro e Y4 ⟨rfl, o6, g6⟩
  rw [HS2.out] at o6
  have OA := Lib.hid o6
  have b6 := E3.out.grown g6 E3.out.size (fun k e => by cases e; exact hgl)
  have KA := Lib.hid b6
  have TA := Lib.hid (own_apart T9.out g6 hgu)
  refine hK.out _ _ KA.out (fun _ => ?_)
  clear hK K o6 g6 b6 E3 O9 T9
  try simp only [Act.put, tS1, tS2, tS3]
  refine wpAnyH_done (by kernel_rfl) ?_ _
  have HZL2 := HZL
  clear CG C16 CO HS2 HP ID A2 N2 R2 T5 O5 K5 HNz HN9
  go_wp2
  go_loopw [9] (fun i wr => ∃ k : Nat, k ≤ 4 ∧ i = .int .i64 (k : Int) ∧ Hid (wr.ownsRow W2.heap.size 5 1 (.slice (some ⟨g, 0, none⟩) n cap2) n (nus .u8 (ov PR (T.take k) 16))) ∧ Hid (wr.ownsRow W4.heap.size 5 1 z1 4 (nus .u8 T)) ∧ Hid (Below W2.heap.size W2 wr)) (fun i _ => 4 - (RowKit.intOf i).toNat)
  case atStart => exact ⟨0, by omega, rfl, by show World.ownsRow _ _ _ _ _ _ _; rw [List.take_zero, ov_nil]; exact OA.out, TA, KA⟩
  case round =>
    obtain ⟨k, hk4, rfl, hO, hT, hK⟩ := hrel
    clear OA TA KA
    obtain ⟨gz, cz, rfl, -, -, -, -⟩ := own_at hT.out (by omega)
    have hol : ∀ j, j ≤ 4 → (ov PR (T.take j) 16).length = n := fun j hj => by rw [ov_length _ _ _ (by rw [HZL2.out]; simp; omega), HZL2.out]
    have HOL := Lib.hid hol
    clear hol
    by_cases hlt : k < 4
    · have s1 := hT.out.cellAt k (by omega)
      rw [nus_get _ _ _ (by rw [HHl.out]; exact hlt)] at s1
      have hx := HHB.out k
      have t1 := hO.out.cellAt (16 + k) (by omega)
      rw [nus_get _ _ _ (by rw [HOL.out k (by omega)]; omega)] at t1
      have f1 := hO.out.frozenAt (16 + k)
      have q1 := hO.out.stored (16 + k) (.int .u8 ((T.getD k 0 : Nat) : Int))
      rw [nus_set, ov_step PR T 16 k (by rw [HZL2.out, HHl.out]; omega) (by rw [HHl.out]; exact hlt)] at q1
      have Q := Lib.hid q1.1
      have QT := Lib.hid (own_apart hT.out q1.2 hgu)
      have KK := Lib.hid (hK.out.grown q1.2 hK.out.size (fun k e => by cases e; exact hgl))
      clear q1
      generalize (ov PR (T.take k) 16).getD (16 + k) 0 = y1 at t1
      generalize T.getD k 0 = x1 at *
      have a2 : IntKind.i64.wrap (16 + (k : Int)) = 16 + (k : Int) := by rw [IntKind.wrap_i64]; omega
      have b2 : (0 : Int) ≤ 16 + (k : Int) ∧ 16 + (k : Int) < (n : Int) := by omega
      have d2 : ((16 : Int) + (k : Int)).toNat = 16 + k := by omega
      have e2 : 16 + k < n := by omega
      go_wp2
      go_roundw
      case rel => exact ⟨k + 1, by omega, by go_num, Q, QT, KK⟩
      case measure => simp [RowKit.intOf]; omega
    · obtain rfl : k = 4 := by omega
      have O4 := Lib.hid (show wr.ownsRow W2.heap.size 5 1 (.slice (some ⟨g, 0, none⟩) n cap2) n (nus .u8 RES) from by rw [HD.out]; have := hO.out; rwa [List.take_of_length_le (Nat.le_of_eq HHl.out)] at this)
      have K4 := hK
      clear hO hT hK hlt
      go_wp2
      go_ret
      exact ⟨_, rfl, own_low K2.out.size O4.out, K2.out.trans (K4.out.mono K2.out.size)⟩
end Go.Proofs.Ythionipmohbnhaa
namespace Go.Proofs.Ythionipmohbnhaa
open Go.RowKit
set_option maxRecDepth 100000 in
set_option maxHeartbeats 2000000 in
theorem rdest6_yes (v : Value) (zs : List Nat) (bs : List Nat) (w : World) (hr : Rd w v (nus .u8 zs)) (hb : ∀ c ∈ zs, c < 256) (h : f6 zs = 0) (hz : zs.length ≤ 3000) (hl : bs.length = 16) :
    Calls Try.prog 25 #[v, adr true bs] w fun e w' => ∃ x, e = .returned x ∧ w'.ownsRow w.heap.size 5 1 x zs.length (nus .u8 (dst6 zs bs)) ∧ Below w.heap.size w w' := by
  obtain ⟨h40, -, -, -⟩ := f6_yes zs h
  have K := Lib.hid (Below.refl w.heap.size w)
  have HR := Lib.hid hr
  have CB := Lib.hid (fun w' => rbytes_own true bs hl w')
  unfold bytesA at CB
  rw [if_pos rfl, hl] at CB
  unfold adr at CB ⊢
  have C0 := Lib.hid (show (cellsA true bs)[0]? = some (.bool true) from cellsA_head _ _)
  have hcz : (cellsA true bs).size = 17 := by rw [cellsA_size, hl]
  generalize cellsA true bs = c at *
  have I := Lib.hid (i24.trans (congrArg some hcz.symm))
  have CS := Lib.hid (fun W (h : Rd W v (nus .u8 zs)) => rsix_any v zs W h hb)
  rw [h] at CS
  have YH : Hid ((rd6 zs).size = Array.size (Zc37 : Array Value)) := rd6_size zs
  have ZH := Lib.hid (i37.trans (congrArg some (rd6_size zs).symm))
  have AH := Lib.hid (rd6_all zs)
  obtain ⟨a, cap, rfl, hlc, hlm⟩ := rd_shape hr
  obtain ⟨b, off, rfl, -⟩ := hr.cells (by omega)
  have R1 := Lib.hid (hr.front 24 (by omega))
  have hR2 := subP hr 40 (zs.length - 40) (by omega)
  obtain ⟨P, hP⟩ : ∃ P, P = (if cap = 40 then some (⟨b, off, none⟩ : Addr) else some ⟨b, off + 40, none⟩) := ⟨_, rfl⟩
  have hPn : P = none → cap - 40 = 0 := by intro e; rw [hP] at e; split at e <;> cases e
  rw [← hP] at hR2
  have R2 := Lib.hid hR2
  have HP := Lib.hid hP
  have HD : Hid (zs.take 24 ++ bs ++ (zs.drop 40).take (zs.length - 40) = dst6 zs bs) := by
    show _ = _
    unfold dst6 ov
    rw [show (zs.drop 40).take (zs.length - 40) = zs.drop 40 from List.take_of_length_le (by rw [List.length_drop]; exact Nat.le_refl _), hl, List.append_assoc]
  generalize dst6 zs bs = RES at *
  generalize (zs.drop 40).take (zs.length - 40) = T2 at *
  generalize zs.take 24 = T1 at *
  generalize rd6 zs = H at *
  generalize zs.length = n at *
  unfold maxLen at hlm
  clear hr hb hcz h hP hR2 hl
  go_enter Try.func25, Try.ntmps25
  have hal := (Below.refl w.heap.size w).alloc (Nat.le_refl _) (.cells c 25)
  replace K := Lib.hid (K.out.trans (hal.mono K.out.size))
  replace HR := Lib.hid (HR.out.below hal)
  have N := Lib.hid (Blk.new w 25 c)
  clear hal
  go_wp2_with fail
  generalize (w.alloc (.cells c 25)) = V1 at *
  refine (CS.out _ HR.out).mono ?_
  rintro e V2 ⟨rfl, hy⟩
  replace K := Lib.hid (K.out.trans (hy.mono K.out.size))
  replace HR := Lib.hid (HR.out.below hy)
  replace N := Lib.hid (N.out.below hy N.out.lt)
  clear hy
  go_wp2_with (((with_reducible refine wpList_blk_store (op := ⟨none, .store 67 (.tmp 5) (.tmp 10), _, _, _, _⟩) ?sg2 67 (.tmp 5) (.tmp 10) ?so2 (V2.heap.size) H ?sx2 ?sy2 (Blk.new V2 67 Zc37) YH.out ZH.out AH.out ?_); (case sg2 => rfl); (case so2 => rfl); (case sx2 => rfl); (case sy2 => rfl)))
  have qNNH : w.heap.size < V2.heap.size := N.out.lt
  intro V3 hA hF hB
  have hy := ((Below.refl V2.heap.size V2).alloc (Nat.le_refl _) (.cells Zc37 67)).trans (hB _ (Nat.le_refl _))
  replace K := Lib.hid (K.out.trans (hy.mono K.out.size))
  replace HR := Lib.hid (HR.out.below hy)
  replace N := Lib.hid (N.out.below hy N.out.lt)
  have NH := Lib.hid hA
  clear hA hF hB hy
  have hc1 := (N.out.cell 0).trans C0.out
  go_upto_region 4 with fail
  clear hc1
  have hlow : V3.heap.size ≤ V3.heap.size := Nat.le_refl _
  have qN := N.out.lt
  have qNH := NH.out.lt
  have qK := K.out.size
  replace R1 := Lib.hid (R1.out.below K.out)
  replace R2 := Lib.hid (R2.out.below K.out)
  refine wp_region_held (S := (fun w' : World => Below (V3.heap.size) V3 w')) (by kernel_rfl) ?_
  change wpAnyH _ _ _ _ _ _ _ _ V3.drew
  have hy : Below V3.heap.size V3 V3.drew := (Below.refl _ _).drew
  have hE0 : Below (V3.heap.size) V3 V3.drew := (Below.refl _ _).drew
  clear hy
  generalize V3.drew = Y4x0 at hE0  ⊢
  have E0 := Lib.hid hE0
  clear hE0
  refine tkA 1 (?_) ?_ E0.out ?_
  rotate_left
  · (intro w1 hS; go_simp; try with_reducible rfl)
  simp only [Act.put, tS1, tS2, tS3]
  refine tkA 2 (?_) ?_ E0.out ?_
  rotate_left
  · (intro w1 hS; have hW := hS; have q : (24 : Int) ≤ (cap : Int) := (by omega); clear hW hS; go_simp; try with_reducible rfl)
  simp only [Act.put, tS1, tS2, tS3]
  refine tkA 4 (.agg c) ?_ E0.out ?_
  · (intro w1 hS; have hW := hS; exact exec_load 25 (.tmp 3) rfl _ rfl _ (run_blk_load (P := Try.prog) 25 (w.heap.size) _ (N.out.below hW (by omega)) Try.underlying25 rfl I.out))
  simp only [Act.put, tS1, tS2, tS3]
  refine tkA 7 (?_) ?_ E0.out ?_
  rotate_left
  · (intro w1 hS; go_simp; try with_reducible rfl)
  simp only [Act.put, tS1, tS2, tS3]
  refine tkA 8 (?_) ?_ E0.out ?_
  rotate_left
  · (intro w1 hS; have hW := hS; have q : (40 : Int) ≤ (n : Int) := (by omega); have q3 : (n : Int) ≤ (cap : Int) := (by omega); have q2 := HP.out.symm; clear hW hS; go_simp; try with_reducible rfl)
  simp only [Act.put, tS1, tS2, tS3]
  refine tkO 0 (fun K hK => ?_)
  go_simp
  have hy := (Below.refl Y4x0.heap.size Y4x0).alloc (Nat.le_refl _) (.cells #[] 5)
  have O := own_none Y4x0 5
  replace O := own_low (b1 := V3.heap.size) E0.out.size O
  have hg0 : V3.heap.size ≤ Y4x0.heap.size := E0.out.size
  generalize Y4x0.alloc (.cells #[] 5) = Y4x1 at O hy ⊢
  generalize Y4x0.heap.size = g0 at O hg0 ⊢
  replace O := Lib.hid O
  have E1 := Lib.hid (E0.out.trans (hy.mono (Nat.le_trans hlow E0.out.size)))
  have C1 := Lib.hid E1.out
  clear hy E0
  refine hK.out _ _ C1.out (fun _ => ?_)
  clear hK K
  clear C1
  try simp only [Act.put, tS1, tS2, tS3]
  refine tkO 3 (fun K hK => ?_)
  rw [if_pos (by rfl)]
  refine wp_app (.tmp 19) (.tmp 21) rfl (V3.heap.size) (.slice (some ⟨g0, 0, none⟩) 0 0) 0 [] rfl O.out (some ⟨b, off, none⟩) (24) (cap) T1 rfl (R1.out.below E1.out) (by intro e; cases e) (by omega) (Nat.le_trans hlow E1.out.size) ?_
  intro vx Y4x2 oz gz
  replace O := Lib.hid oz
  clear oz
  have E2 := Lib.hid (E1.out.grown gz (Nat.le_trans hlow E1.out.size) (fun k e => by cases e; first | exact Nat.le_refl _ | omega))
  obtain ⟨g1, c1, rfl, hc1, hc1m, hg1, hg1u⟩ := own_at O.out (by omega)
  clear gz E1
  refine hK.out _ _ E2.out (fun _ => ?_)
  clear hK K
  try simp only [Act.put, tS1, tS2, tS3]
  refine tkO 5 (fun K hK => ?_)
  go_simp
  refine (CB.out Y4x2).mono ?_
  rintro e Y4x3 ⟨z, rfl, hz, hy⟩
  replace O := Lib.hid (row_under O.out hy)
  have E3 := Lib.hid (E2.out.trans (hy.mono (Nat.le_trans hlow E2.out.size)))
  have C3 := Lib.hid E3.out
  have Z := Lib.hid (hz)
  clear hy E2
  refine hK.out _ _ C3.out (fun _ => ?_)
  clear hK K
  clear C3
  try simp only [Act.put, tS1, tS2, tS3]
  obtain ⟨gz, cz, rfl, -, -, -, -⟩ := own_at Z.out (by omega)
  refine tkO 6 (fun K hK => ?_)
  rw [if_pos (by rfl)]
  refine wp_app (.tmp 22) (.tmp 24) rfl (V3.heap.size) (.slice (some ⟨g1, 0, none⟩) (0 + 24) c1) (0 + 24) ([] ++ T1) rfl O.out (some ⟨gz, 0, none⟩) (16) (cz) bs rfl (Rd.own Z.out) (by intro e; cases e) (by omega) (Nat.le_trans hlow E3.out.size) ?_
  intro vx Y4x4 oz gz
  clear Z
  replace O := Lib.hid oz
  clear oz
  have E4 := Lib.hid (E3.out.grown gz (Nat.le_trans hlow E3.out.size) (fun k e => by cases e; first | exact Nat.le_refl _ | omega))
  obtain ⟨g2, c2, rfl, hc2, hc2m, hg2, hg2u⟩ := own_at O.out (by omega)
  clear gz E3
  refine hK.out _ _ E4.out (fun _ => ?_)
  clear hK K
  try simp only [Act.put, tS1, tS2, tS3]
  refine tkO 9 (fun K hK => ?_)
  rw [if_pos (by rfl)]
  refine wp_app (.tmp 25) (.tmp 27) rfl (V3.heap.size) (.slice (some ⟨g2, 0, none⟩) (0 + 24 + 16) c2) (0 + 24 + 16) ([] ++ T1 ++ bs) rfl O.out (P) (n - 40) (cap - 40) T2 rfl (R2.out.below E4.out) hPn (by omega) (Nat.le_trans hlow E4.out.size) ?_
  intro vx Y4x5 oz gz
  replace O := Lib.hid oz
  clear oz
  have E5 := Lib.hid (E4.out.grown gz (Nat.le_trans hlow E4.out.size) (fun k e => by cases e; first | exact Nat.le_refl _ | omega))
  obtain ⟨g3, c3, rfl, hc3, hc3m, hg3, hg3u⟩ := own_at O.out (by omega)
  clear gz E4
  refine hK.out _ _ E5.out (fun _ => ?_)
  clear hK K
  try simp only [Act.put, tS1, tS2, tS3]
  refine tkA 10 (?_) ?_ E5.out ?_
  rotate_left
  · (intro w1 hS; go_simp; try with_reducible rfl)
  simp only [Act.put, tS1, tS2, tS3]
  refine wpAnyH_done (by kernel_rfl) ?_ _
  replace K := Lib.hid (K.out.trans (E5.out.mono (by omega)))
  replace N := Lib.hid (N.out.below E5.out (by omega))
  replace NH := Lib.hid (NH.out.below E5.out (by omega))
  clear E5
  have hn : 0 + 24 + 16 + (n - 40) = n := by omega
  rw [hn, List.nil_append, HD.out] at O
  rw [hn]
  go_wp2
  go_ret
  exact ⟨_, rfl, own_low qK O.out, K.out⟩
end Go.Proofs.Ythionipmohbnhaa
