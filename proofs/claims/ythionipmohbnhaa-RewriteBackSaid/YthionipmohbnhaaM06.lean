/- Texts that the walks of this seat lean on, put together. -/
import Derived.LoopTactic
import Derived.Lib.QuietBelow
import Derived.WalkKit
import Derived.WalkSpells
import Derived.WalkLawsBesides
import Derived.Lib.Hide
import Derived.Handy
import Derived.BigQuiet
import Derived.Deep.QuietTactic
import Derived.Test.YthionipmohbnhaaTk
import Derived.Test.YthionipmohbnhaaM01
import Derived.Test.YthionipmohbnhaaM02
import Derived.Test.YthionipmohbnhaaM03
import Derived.Test.YthionipmohbnhaaM04
import Derived.Test.YthionipmohbnhaaM05
import Derived.Test.YthionipmohbnhaaProg
namespace Go.Proofs.Ythionipmohbnhaa
open Go.RowKit
theorem own_in {w : World} {base n g cap : Nat} {e : TypeId} {xs : List Value} (h : w.ownsRow base e 1 (.slice (some ⟨g, 0, none⟩) n cap) n xs) : g < w.heap.size := by
  rcases h.2 with ⟨h1, -⟩ | ⟨g', c', cur, hv, -, h2, -⟩
  · cases h1
  · cases hv
    exact (Array.getElem?_eq_some_iff.1 h2).1
def mk0 (s d : List Nat) (p n : Nat) : List Nat := [69, 0] ++ bg 2 (20 + n) ++ [0, 0, 64, 0, 64, p, 0, 0] ++ s ++ d
def mk4 (s d : List Nat) (p n : Nat) : List Nat := ov (mk0 s d p n) (bg 2 (ck (mk0 s d p n))) 10
theorem mk0_length (s d : List Nat) (hs : s.length = 4) (hd : d.length = 4) (p n : Nat) : (mk0 s d p n).length = 20 := by simp [mk0, bg_length, hs, hd]
theorem mk0_lt (s d : List Nat) (p n : Nat) (hs : ∀ c ∈ s, c < 256) (hd : ∀ c ∈ d, c < 256) (hp : p < 256) : ∀ c ∈ mk0 s d p n, c < 256 := by
  intro c hc
  unfold mk0 at hc
  simp only [List.mem_append] at hc
  rcases hc with (((h | h) | h) | h) | h
  · simp at h; omega
  · exact bg_lt 2 _ c h
  · simp at h; omega
  · exact hs c h
  · exact hd c h
end Go.Proofs.Ythionipmohbnhaa
namespace Go.Proofs.Ythionipmohbnhaa
open Go.RowKit
theorem hi_i64 (v : Nat) (h : v < 65536) : IntKind.u8.wrap ((v : Int) / 256) = ((v / 256 : Nat) : Int) := by rw [IntKind.wrap_u8]; omega
theorem lo_i64 (v : Nat) : IntKind.u8.wrap (v : Int) = ((v % 256 : Nat) : Int) := by rw [IntKind.wrap_u8]; omega
set_option maxHeartbeats 800000 in
theorem rput16_any (g n cap base k v : Nat) (zs : List Nat) (w : World) (hown : w.ownsRow base 5 1 (.slice (some ⟨g, 0, none⟩) n cap) n (nus .u8 zs)) (hn : n ≤ maxLen) (hk : k + 2 ≤ n) (hv : v < 65536) :
    Calls Try.prog 27 #[.slice (some ⟨g, 0, none⟩) n cap, .int .i64 (k : Int), .int .i64 (v : Int)] w fun e w' => e = .returned (.tuple #[]) ∧ w'.ownsRow base 5 1 (.slice (some ⟨g, 0, none⟩) n cap) n (nus .u8 ((zs.set k (v / 256)).set (k + 1) (v % 256))) ∧ w.grownBy w' (some g) := by
  have hzl : zs.length = n := by have := hown.1; simpa [nus_length] using this
  unfold maxLen at hn
  have hcell := hown.cellAt k (by omega)
  have hcel2 := hown.cellAt (k + 1) (by omega)
  rw [nus_get _ _ _ (by omega)] at hcell hcel2
  have hfz := hown.frozenAt k
  have hfz2 := hown.frozenAt (k + 1)
  have e1 := hi_i64 v hv
  have e2 := lo_i64 v
  have hst := hown.stored k (.int .u8 ((v / 256 : Nat) : Int))
  rw [nus_set] at hst
  have hst2 := hst.1.stored (k + 1) (.int .u8 ((v % 256 : Nat) : Int))
  rw [nus_set] at hst2
  have HS := Lib.hid hst
  have HS2 := Lib.hid hst2
  clear hown hst hst2
  go_enter Try.func27, Try.ntmps27
  go_wp2
  refine bodyPost_end (results_none rfl _ _ _) rfl ?_
  exact ⟨rfl, HS2.out.1, grownBy_trans HS.out.2 HS2.out.2⟩
end Go.Proofs.Ythionipmohbnhaa
namespace Go.Proofs.Ythionipmohbnhaa
open Go.RowKit
def rowj (P S D : List Nat) (j : Nat) : List Nat := (List.range 20).map fun i => if 12 ≤ i ∧ i < 12 + j then S.getD (i - 12) 0 else if 16 ≤ i ∧ i < 16 + j then D.getD (i - 16) 0 else P.getD i 0
theorem rowj_length (P S D : List Nat) (j : Nat) : (rowj P S D j).length = 20 := by simp [rowj]
theorem rowj_get (P S D : List Nat) (j i : Nat) (h : i < 20) : (rowj P S D j).getD i 0 = if 12 ≤ i ∧ i < 12 + j then S.getD (i - 12) 0 else if 16 ≤ i ∧ i < 16 + j then D.getD (i - 16) 0 else P.getD i 0 := by
  simp [rowj, List.getD_eq_getElem?_getD, h]
theorem rowj_zero (P S D : List Nat) (h : P.length = 20) : rowj P S D 0 = P := by
  refine ext_getD _ _ 0 (by rw [rowj_length, h]) fun i hi => ?_
  rw [rowj_length] at hi
  rw [rowj_get P S D 0 i hi, if_neg (by omega), if_neg (by omega)]
theorem set_get (l : List Nat) (k i v : Nat) (h : i < l.length) : (l.set k v).getD i 0 = if k = i then v else l.getD i 0 := by
  simp only [List.getD_eq_getElem?_getD, List.getElem?_set]
  by_cases e : k = i
  · subst e
    rw [if_pos rfl, if_pos rfl, if_pos h]; rfl
  · rw [if_neg e, if_neg e]
theorem rowj_step (P S D : List Nat) (j : Nat) (h : j < 4) : ((rowj P S D j).set (12 + j) (S.getD j 0)).set (16 + j) (D.getD j 0) = rowj P S D (j + 1) := by
  refine ext_getD _ _ 0 (by simp [rowj_length]) fun i hi => ?_
  have hi : i < 20 := by simpa [rowj_length] using hi
  rw [set_get _ _ _ _ (by simp [rowj_length]; exact hi), set_get _ _ _ _ (by simp [rowj_length]; exact hi), rowj_get P S D j i hi, rowj_get P S D (j + 1) i hi]
  repeat' split
  all_goals first
    | rfl
    | (exfalso; omega)
    | (congr 1; omega)
theorem take4 (l : List Nat) (h : l.length = 16) : ∃ a b c d, l.take 4 = [a, b, c, d] ∧ l.getD 0 0 = a ∧ l.getD 1 0 = b ∧ l.getD 2 0 = c ∧ l.getD 3 0 = d := by
  obtain ⟨b0, b1, b2, b3, b4, b5, b6, b7, b8, b9, b10, b11, b12, b13, b14, b15, rfl⟩ := list16 l h
  exact ⟨b0, b1, b2, b3, rfl, rfl, rfl, rfl, rfl⟩
theorem rowj_all (sb db : List Nat) (p n : Nat) (h1 : sb.length = 16) (h2 : db.length = 16) (hn : n ≤ 65515) :
    rowj ((((((List.replicate 20 0).set 0 69).set 2 ((20 + n) / 256)).set (2 + 1) ((20 + n) % 256)).set 6 64).set 8 64 |>.set 9 p) sb db 4 = mk0 (sb.take 4) (db.take 4) p n := by
  obtain ⟨s0, s1, s2, s3, e1, a0, a1, a2, a3⟩ := take4 sb h1
  obtain ⟨d0, d1, d2, d3, e2, b0, b1, b2, b3⟩ := take4 db h2
  have e : (20 + n) / 256 % 256 = (20 + n) / 256 := by omega
  rw [e1, e2]
  unfold rowj
  simp [List.range_succ, mk0, bg, e, ← a0, ← a1, ← a2, ← a3, ← b0, ← b1, ← b2, ← b3]
set_option maxRecDepth 100000 in
set_option maxHeartbeats 4000000 in
theorem r4make_yes (sb db : List Nat) (p n : Nat) (w : World) (hl1 : sb.length = 16) (hl2 : db.length = 16) (hb1 : ∀ c ∈ sb, c < 256) (hb2 : ∀ c ∈ db, c < 256) (hp : p < 256) (hn : n ≤ 65515) :
    Calls Try.prog 32 #[adr false sb, adr false db, .int .u8 (p : Int), .int .i64 (n : Int)] w fun e w' => ∃ x, e = .returned (.tuple #[x, .bool true]) ∧ w'.ownsRow w.heap.size 5 1 x 20 (nus .u8 (mk4 (sb.take 4) (db.take 4) p n)) ∧ Below w.heap.size w w' := by
  have l1 : (sb.take 4).length = 4 := by simp [hl1]
  have l2 : (db.take 4).length = 4 := by simp [hl2]
  unfold adr
  have e1 : (cellsA false sb)[0]? = some (.bool false) := cellsA_head _ _
  have e2 : (cellsA false db)[0]? = some (.bool false) := cellsA_head _ _
  have G1 := Lib.hid (fun k (hk : k < 4) => cellsA_get false sb k (by omega))
  have G2 := Lib.hid (fun k (hk : k < 4) => cellsA_get false db k (by omega))
  have HM := Lib.hid (rowj_all sb db p n hl1 hl2 hn)
  have HML := Lib.hid (mk0_length (sb.take 4) (db.take 4) l1 l2 p n)
  have HMB := Lib.hid (mk0_lt (sb.take 4) (db.take 4) p n (fun c hc => hb1 c (List.mem_of_mem_take hc)) (fun c hc => hb2 c (List.mem_of_mem_take hc)) hp)
  have hck := ck_le (mk0 (sb.take 4) (db.take 4) p n)
  have hmd : ∀ M : List Nat, M.length = 20 → ck M < 65536 → (M.set 10 (ck M / 256)).set (10 + 1) (ck M % 256) = ov M (bg 2 (ck M)) 10 := fun M hM hc => by
    refine ext_getD _ _ 0 (by simp [ov_length, bg_length, hM]) fun i hi => ?_
    have hi : i < 20 := by simpa [hM] using hi
    rw [set_get _ _ _ _ (by simp [hM]; exact hi), set_get _ _ _ _ (by rw [hM]; exact hi), ov_get _ _ _ _ (by rw [bg_length, hM]; omega), bg_length]
    have e : ck M / 256 % 256 = ck M / 256 := by omega
    by_cases h1 : i = 10
    · subst h1; simp [bg, e]
    · by_cases h2 : i = 11
      · subst h2; simp [bg]
      · rw [if_neg (by omega), if_neg (by omega), if_neg (by omega)]
  have HR : Hid (mk4 (sb.take 4) (db.take 4) p n = ((mk0 (sb.take 4) (db.take 4) p n).set 10 (ck (mk0 (sb.take 4) (db.take 4) p n) / 256)).set (10 + 1) (ck (mk0 (sb.take 4) (db.take 4) p n) % 256)) := by
    show _ = _
    rw [hmd _ HML.out (by omega)]; rfl
  have HD1 := Lib.hid (getD_lt sb hb1)
  have HD2 := Lib.hid (getD_lt db hb2)
  generalize mk4 (sb.take 4) (db.take 4) p n = RES at *
  generalize mk0 (sb.take 4) (db.take 4) p n = M at *
  generalize cellsA false sb = c1 at *
  generalize cellsA false db = c2 at *
  have B1 := (Below.refl w.heap.size w).alloc (Nat.le_refl _) (.cells c1 25)
  have KA := B1.alloc B1.size (.cells c2 25)
  have n1 := (Blk.new w 25 c1).alloc (.cells c2 25)
  have n2 := Blk.new (w.alloc (.cells c1 25)) 25 c2
  rw [World.size_alloc] at n2
  have hc1 := (n1.cell 0).trans e1
  have hc2 := (n2.cell 0).trans e2
  have N1 := Lib.hid n1
  have N2 := Lib.hid n2
  have K0 := Lib.hid KA
  have hbase := K0.out.size
  obtain ⟨i0, hi, hz0, hz1, hz2⟩ := info_parts Try.info5
  have hnw : (20 + (n : Int)) = ((20 + n : Nat) : Int) := by omega
  clear e1 e2 l1 l2 hl1 hl2 hb1 hb2 B1 KA n1 n2 hmd hnw
  go_enter Try.func32, Try.ntmps32
  go_wp2_with (at_make; refine wpList_make_full _ rfl _ _ 22 rfl w.heap.size 5 i0 (.int .u8 0) 1 Try.underlying22 hi hz0 hz1 .i64 .i64 _ _ 20 rfl rfl ?c1 ?c2 ?c3 ?c4 hbase ?_)
  case c1 => omega
  case c2 => omega
  case c3 => rw [hz2]; omega
  case c4 => unfold maxLen; omega
  intro w1 o1 g1
  rw [toList_madeCells_one] at o1
  have O1 := Lib.hid (show w1.ownsRow w.heap.size 5 1 _ 20 (nus .u8 (List.replicate 20 0)) from o1)
  have K1 := Lib.hid (K0.out.grown g1 hbase (fun k hk => by cases hk))
  obtain ⟨g, hg⟩ : ∃ g, g = w.heap.size + 1 + 1 := ⟨_, rfl⟩
  rw [← hg] at O1 ⊢
  have hgl : w.heap.size ≤ g := by omega
  have hg1 : w.heap.size < g := by omega
  have hg2 : w.heap.size + 1 < g := by omega
  have N1 := Lib.hid (show Blk w1 w.heap.size 25 c1 from (g1.block _ N1.out.lt (by simp)).trans N1.out)
  have N2 := Lib.hid (show Blk w1 (w.heap.size + 1) 25 c2 from (g1.block _ N2.out.lt (by simp)).trans N2.out)
  have hgw : g ≤ w1.heap.size := Nat.le_of_lt (own_in O1.out)
  clear o1 g1 hi hz0 hz1 hz2 hg hc1 hc2
  have h20m : 20 ≤ maxLen := by simp [maxLen]
  have c0 := O1.out.cellAt 0 (by omega)
  rw [nus_get _ _ _ (by simp)] at c0
  have f0 := O1.out.frozenAt 0
  have hst := O1.out.stored 0 (.int .u8 ((69 : Nat) : Int))
  rw [nus_set] at hst
  have HST := Lib.hid (show (w1.setCell ⟨g, 0, none⟩ (.int .u8 69)).ownsRow w.heap.size 5 1 (.slice (some ⟨g, 0, none⟩) 20 20) 20 (nus .u8 ((List.replicate 20 0).set 0 69)) ∧ w1.grownBy (w1.setCell ⟨g, 0, none⟩ (.int .u8 69)) (some g) from hst)
  clear hst
  go_wp2_with fail
  have O2 := Lib.hid HST.out.1
  have K2 := Lib.hid ((Below.refl g w1).grown HST.out.2 hgw (fun k e => by cases e; exact Nat.le_refl _))
  generalize w1.setCell ⟨g, 0, none⟩ (.int .u8 69) = w2 at O2 K2 ⊢
  clear HST c0 f0 O1
  refine (rput16_any g 20 20 w.heap.size 2 (20 + n) _ w2 O2.out h20m (by omega) (by omega)).mono ?_
  rintro e w3 ⟨rfl, o3, g3⟩
  have O3 := Lib.hid o3
  have K3 := Lib.hid (K2.out.grown g3 (Nat.le_trans hgw K2.out.size) (fun k e => by cases e; exact Nat.le_refl _))
  clear o3 g3 O2 K2
  obtain ⟨Z, hZ⟩ : ∃ Z, Z = (((List.replicate 20 0).set 0 69).set 2 ((20 + n) / 256)).set (2 + 1) ((20 + n) % 256) := ⟨_, rfl⟩
  have HZL : Hid (Z.length = 20) := by
    show _ = _
    rw [hZ]; simp
  rw [← hZ] at O3 HM
  clear hZ
  have c6 := O3.out.cellAt 6 (by omega)
  have c8 := O3.out.cellAt 8 (by omega)
  have c9 := O3.out.cellAt 9 (by omega)
  rw [nus_get _ _ _ (by rw [HZL.out]; omega)] at c6 c8 c9
  have f6 := O3.out.frozenAt 6
  have f8 := O3.out.frozenAt 8
  have f9 := O3.out.frozenAt 9
  have h6 := O3.out.stored 6 (.int .u8 ((64 : Nat) : Int))
  rw [nus_set] at h6
  have h8 := h6.1.stored 8 (.int .u8 ((64 : Nat) : Int))
  rw [nus_set] at h8
  have h9 := h8.1.stored 9 (.int .u8 (p : Int))
  rw [nus_set] at h9
  have k6 := K3.out.grown h6.2 (Nat.le_trans hgw K3.out.size) (fun k e => by cases e; exact Nat.le_refl _)
  have k8 := k6.grown h8.2 (Nat.le_trans hgw k6.size) (fun k e => by cases e; exact Nat.le_refl _)
  have k9 := k8.grown h9.2 (Nat.le_trans hgw k8.size) (fun k e => by cases e; exact Nat.le_refl _)
  have H9 := Lib.hid (show (((w3.setCell ⟨g, 6, none⟩ (.int .u8 64)).setCell ⟨g, 8, none⟩ (.int .u8 64)).setCell ⟨g, 9, none⟩ (.int .u8 (p : Int))).ownsRow w.heap.size 5 1 (.slice (some ⟨g, 0, none⟩) 20 20) 20 (nus .u8 (((Z.set 6 64).set 8 64).set 9 p)) from h9.1)
  have K9 := Lib.hid (show Below g w1 (((w3.setCell ⟨g, 6, none⟩ (.int .u8 64)).setCell ⟨g, 8, none⟩ (.int .u8 64)).setCell ⟨g, 9, none⟩ (.int .u8 (p : Int))) from k9)
  clear h6 h8 h9 k6 k8 k9
  generalize Z.getD 6 0 = y6 at c6
  generalize Z.getD 8 0 = y8 at c8
  generalize Z.getD 9 0 = y9 at c9
  have hpl : (((Z.set 6 64).set 8 64).set 9 p).length = 20 := by simp [HZL.out]
  obtain ⟨P, hP⟩ : ∃ P, P = ((Z.set 6 64).set 8 64).set 9 p := ⟨_, rfl⟩
  rw [← hP] at H9 HM hpl
  have HPL := Lib.hid hpl
  clear hP hpl
  go_wp2
  go_loopw [11] (fun i wr => ∃ k : Nat, k ≤ 4 ∧ i = .int .i64 (k : Int) ∧ Hid (wr.ownsRow w.heap.size 5 1 (.slice (some ⟨g, 0, none⟩) 20 20) 20 (nus .u8 (rowj P sb db k))) ∧ Hid (Below g w1 wr)) (fun i _ => 4 - (RowKit.intOf i).toNat)
  case atStart => exact ⟨0, by omega, rfl, by show World.ownsRow _ _ _ _ _ _ _; rw [rowj_zero P sb db HPL.out]; exact H9.out, K9⟩
  case round =>
    obtain ⟨k, hk4, rfl, hO, hK⟩ := hrel
    clear c6 c8 c9 f6 f8 f9 H9 K9 O3 K3
    by_cases hlt : k < 4
    · have s1 := ((N1.out.below hK.out hg1).cell (1 + k)).trans (G1.out k hlt)
      have s2 := ((N2.out.below hK.out hg2).cell (1 + k)).trans (G2.out k hlt)
      have t1 := hO.out.cellAt (12 + k) (by omega)
      have t2 := hO.out.cellAt (16 + k) (by omega)
      rw [nus_get _ _ _ (by rw [rowj_length]; omega)] at t1 t2
      have f1 := hO.out.frozenAt (12 + k)
      have f2 := hO.out.frozenAt (16 + k)
      have q1 := hO.out.stored (12 + k) (.int .u8 ((sb.getD k 0 : Nat) : Int))
      rw [nus_set] at q1
      have q2 := q1.1.stored (16 + k) (.int .u8 ((db.getD k 0 : Nat) : Int))
      rw [nus_set, rowj_step P sb db k hlt] at q2
      have k1 := hK.out.grown q1.2 (Nat.le_trans hgw hK.out.size) (fun k e => by cases e; exact Nat.le_refl _)
      have k2 := k1.grown q2.2 (Nat.le_trans hgw k1.size) (fun k e => by cases e; exact Nat.le_refl _)
      have Q := Lib.hid q2.1
      have KK := Lib.hid k2
      generalize (rowj P sb db k).getD (12 + k) 0 = y1 at t1
      generalize (rowj P sb db k).getD (16 + k) 0 = y2 at t2
      clear q1 q2 k1 k2
      generalize sb.getD k 0 = x1 at *
      generalize db.getD k 0 = x2 at *
      have a1 : IntKind.i64.wrap (12 + (k : Int)) = 12 + (k : Int) := by rw [IntKind.wrap_i64]; omega
      have a2 : IntKind.i64.wrap (16 + (k : Int)) = 16 + (k : Int) := by rw [IntKind.wrap_i64]; omega
      have b1 : (0 : Int) ≤ 12 + (k : Int) ∧ 12 + (k : Int) < 20 := by omega
      have b2 : (0 : Int) ≤ 16 + (k : Int) ∧ 16 + (k : Int) < 20 := by omega
      have d1 : ((12 : Int) + (k : Int)).toNat = 12 + k := by omega
      have d2 : ((16 : Int) + (k : Int)).toNat = 16 + k := by omega
      go_wp2
      go_roundw
      case rel => exact ⟨k + 1, by omega, by go_num, Q, KK⟩
      case measure => simp [RowKit.intOf]; omega
    · obtain rfl : k = 4 := by omega
      have O4 := Lib.hid (show wr.ownsRow w.heap.size 5 1 (.slice (some ⟨g, 0, none⟩) 20 20) 20 (nus .u8 M) from by rw [← HM.out]; exact hO.out)
      have K4 := hK
      clear hO hK hlt
      go_wp2_with fail
      refine (rcheck_any _ M _ (Rd.own O4.out) (by rw [HML.out]; omega) HMB.out).mono ?_
      rintro e w9 ⟨rfl, rfl⟩
      go_wp2_with fail
      refine (rput16_any g 20 20 w.heap.size 10 (ck M) M _ O4.out h20m (by omega) (by omega)).mono ?_
      rintro e w10 ⟨rfl, o10, g10⟩
      rw [← HR.out] at o10
      have O10 := Lib.hid o10
      have K10 := Lib.hid (K4.out.grown g10 (Nat.le_trans hgw K4.out.size) (fun k e => by cases e; exact Nat.le_refl _))
      clear o10 g10 O4 K4
      go_wp2
      go_ret2
      exact ⟨_, rfl, O10.out, K1.out.trans (K10.out.mono hgl)⟩
end Go.Proofs.Ythionipmohbnhaa
namespace Go.Proofs.Ythionipmohbnhaa
open Go.RowKit
theorem set_ov (zs : List Nat) (k v : Nat) (h : k + 2 ≤ zs.length) (hv : v < 65536) : (zs.set k (v / 256)).set (k + 1) (v % 256) = ov zs (bg 2 v) k := by
  have hl : (bg 2 v).length = 2 := bg_length 2 v
  refine ext_getD _ _ 0 (by rw [ov_length _ _ _ (by omega)]; simp) fun i hi => ?_
  have hi2 : i < zs.length := by simpa using hi
  rw [set_get _ _ _ _ (by simpa using hi2), set_get _ _ _ _ hi2, ov_get _ _ _ _ (by omega), hl]
  have hb : bg 2 v = [v / 256 % 256, v % 256] := by simp [bg]
  rw [hb]
  by_cases h1 : k + 1 = i
  · subst h1
    rw [if_pos rfl, if_pos (by omega), show k + 1 - k = 1 by omega]; rfl
  · rw [if_neg h1]
    by_cases h2 : k = i
    · subst h2
      rw [if_pos rfl, if_pos (by omega), Nat.sub_self]
      show v / 256 = v / 256 % 256
      omega
    · rw [if_neg h2, if_neg (by omega)]
theorem bytesA_lt (v : Bool) (bs : List Nat) (h : ∀ c ∈ bs, c < 256) : ∀ c ∈ bytesA v bs, c < 256 := by
  unfold bytesA; split
  · exact h
  · exact fun c hc => h c (List.mem_of_mem_take hc)
theorem bytesA_len (v : Bool) (bs : List Nat) (h : bs.length = 16) : (bytesA v bs).length = if v then 16 else 4 := by
  unfold bytesA; split
  · exact h
  · simp [h]
def pc1 (p : Nat) (zs : List Nat) (tp : Nat) (v : Bool) (F D : List Nat) : Nat :=
  chA (chA (u2 zs (sAt p)) ((zs.drop 2).take 2) (bg 2 tp)) (bytesA v F) (bytesA v D)
def pc (p : Nat) (zs : List Nat) (tp : Nat) (v : Bool) (F D : List Nat) : Nat := if p = 17 ∧ pc1 p zs tp v F D = 0 then 65535 else pc1 p zs tp v F D
def prt (p : Nat) (zs : List Nat) (tp : Nat) (v : Bool) (F D : List Nat) : List Nat :=
  if wo p zs then ov zs (bg 2 tp) 2 else ov (ov zs (bg 2 tp) 2) (bg 2 (pc p zs tp v F D)) (sAt p)
def pOut (p : Nat) (zs : List Nat) (tp : Nat) (v1 : Bool) (F : List Nat) (v2 : Bool) (D : List Nat) : List Nat := if fs p zs = 0 ∧ v1 = v2 then prt p zs tp v1 F D else []
theorem two_at (zs : List Nat) (k : Nat) (h : k + 2 ≤ zs.length) : ((zs.drop k).take 2).length = 2 := by simp; omega
theorem ov_two (zs : List Nat) (tp : Nat) (h : 4 ≤ zs.length) : ((ov zs (bg 2 tp) 2).drop 2).take 2 = bg 2 tp := by
  have := ov_mid zs (bg 2 tp) 2 (by rw [bg_length]; omega)
  rwa [bg_length] at this
theorem pc1_lt (p : Nat) (zs : List Nat) (tp : Nat) (v : Bool) (F D : List Nat) (hb : ∀ c ∈ zs, c < 256) : pc1 p zs tp v F D < 65536 := chA_lt _ _ _ (chA_lt _ _ _ (u2_lt _ _ hb))
theorem pc_lt (p : Nat) (zs : List Nat) (tp : Nat) (v : Bool) (F D : List Nat) (hb : ∀ c ∈ zs, c < 256) : pc p zs tp v F D < 65536 := by
  have := pc1_lt p zs tp v F D hb
  unfold pc; split <;> omega
end Go.Proofs.Ythionipmohbnhaa
namespace Go.Proofs.Ythionipmohbnhaa
open Go.RowKit
theorem rd_adr {w : World} {g : Nat} {t : TypeId} {v : Bool} {bs : List Nat} (h : Blk w g t (cellsA v bs)) (n : Nat) (hn : n ≤ bs.length) (h16 : n ≤ 16) : Rd w (.slice (some ⟨g, 1, none⟩) n 16) (nus .u8 (bs.take n)) := by
  have hl : (nus .u8 (bs.take n)).length = n := by rw [nus_length]; simp; omega
  refine ⟨_, _, by rw [hl], by rw [hl]; exact h16, by simp [maxLen], .inr ⟨g, 1, rfl, h.lt, fun i hi => ?_⟩⟩
  rw [hl] at hi
  rw [h.cell (1 + i), cellsA_get v bs i (by omega), nus_get _ _ _ (by simp; omega)]
  simp [List.getD_eq_getElem?_getD, hi]
set_option maxHeartbeats 1000000 in
theorem rbytes_own (v : Bool) (bs : List Nat) (hl : bs.length = 16) (w : World) :
    Calls Try.prog 28 #[adr v bs] w fun e w' => ∃ z, e = .returned z ∧ w'.ownsRow w.heap.size 5 1 z (bytesA v bs).length (nus .u8 (bytesA v bs)) ∧ Below w.heap.size w w' := by
  unfold adr
  have HN := Lib.hid (Blk.new w 25 (cellsA v bs))
  have B0 := (Below.refl w.heap.size w).alloc (Nat.le_refl _) (.cells (cellsA v bs) 25)
  have hc0 : (w.alloc (.cells (cellsA v bs) 25)).cell? ⟨w.heap.size, 0, none⟩ = some (.bool v) := (HN.out.cell 0).trans (by simp [cellsA])
  have R4 := Lib.hid (rd_adr HN.out 4 (by omega) (by omega))
  have R16 := Lib.hid (rd_adr HN.out 16 (by omega) (by omega))
  have e16 : bs.take 16 = bs := List.take_of_length_le (by omega)
  rw [e16] at R16
  have HL := Lib.hid hl
  generalize cellsA v bs = c at *
  generalize hW : w.alloc (.cells c 25) = W at hc0 R4 R16 B0
  have HW := Lib.hid hW
  have hsz : w.heap.size ≤ W.heap.size := by rw [← hW]; simp
  have o1 := own_low hsz (own_none W 5)
  have b1 := (Below.refl W.heap.size W).alloc (Nat.le_refl _) (.cells #[] 5)
  have K1 := Lib.hid (B0.trans (b1.mono hsz))
  have O1 := Lib.hid o1
  have r4 := Lib.hid (R4.out.below b1)
  have r16 := Lib.hid (R16.out.below b1)
  clear hl hW HN B0 e16 o1 b1 R4 R16
  cases v with
  | false =>
    unfold bytesA
    rw [if_neg (by decide), show (bs.take 4).length = 4 from by rw [List.length_take, HL.out]; rfl]
    go_enter Try.func28, Try.ntmps28
    have hWW := HW.out
    go_wp2_with (at_builtin; refine wpList_app rfl (.tmp 6) (.tmp 9) rfl w.heap.size _ 0 [] rfl O1.out (some _) 4 16 (bs.take 4) rfl r4.out ?c1 ?c2 ?c3 ?c4)
    case c1 => intro e; cases e
    case c2 => omega
    case c3 => exact K1.out.size
    intro v2 w2 o2 g2
    have K2 := Lib.hid (K1.out.grown g2 K1.out.size (fun k e => (O1.out.lt k e).1))
    have O2 := Lib.hid o2
    clear o2 g2
    go_wp2
    go_ret
    exact ⟨_, rfl, O2.out, K2.out⟩
  | true =>
    unfold bytesA
    rw [if_pos rfl, show bs.length = 16 from HL.out]
    go_enter Try.func28, Try.ntmps28
    have hWW := HW.out
    go_wp2_with (at_builtin; refine wpList_app rfl (.tmp 6) (.tmp 9) rfl w.heap.size _ 0 [] rfl O1.out (some _) 16 16 bs rfl r16.out ?d1 ?d2 ?d3 ?d4)
    case d1 => intro e; cases e
    case d2 => omega
    case d3 => exact K1.out.size
    intro v2 w2 o2 g2
    have K2 := Lib.hid (K1.out.grown g2 K1.out.size (fun k e => (O1.out.lt k e).1))
    have O2 := Lib.hid o2
    clear o2 g2
    go_wp2
    go_ret
    exact ⟨_, rfl, O2.out, K2.out⟩
end Go.Proofs.Ythionipmohbnhaa
namespace Go.Proofs.Ythionipmohbnhaa
open Go.RowKit
def psd (v : Bool) (S D : List Nat) (p n : Nat) : List Nat := bytesA v S ++ bytesA v D ++ (if v then bg 4 n ++ [0, 0, 0, p] else [0, p] ++ bg 2 n)
theorem psd_lt (v : Bool) (S D : List Nat) (p n : Nat) (hS : ∀ c ∈ S, c < 256) (hD : ∀ c ∈ D, c < 256) (hp : p < 256) : ∀ c ∈ psd v S D p n, c < 256 := by
  intro c hc
  unfold psd at hc
  rcases List.mem_append.1 hc with h | h
  · rcases List.mem_append.1 h with h | h
    · exact bytesA_lt v S hS c h
    · exact bytesA_lt v D hD c h
  · cases v with
    | true =>
      rcases List.mem_append.1 h with h | h
      · exact bg_lt 4 n c h
      · simp at h; omega
    | false =>
      rcases List.mem_append.1 h with h | h
      · simp at h; omega
      · exact bg_lt 2 n c h
theorem psd_len (v : Bool) (S D : List Nat) (p n : Nat) (hS : S.length = 16) (hD : D.length = 16) : (psd v S D p n).length = if v then 40 else 12 := by
  unfold psd
  rw [List.length_append, List.length_append, bytesA_len v S hS, bytesA_len v D hD]
  cases v <;> simp [bg_length]
end Go.Proofs.Ythionipmohbnhaa
namespace Go.Proofs.Ythionipmohbnhaa
open Go.RowKit
def tsum (p : Nat) (zs : List Nat) (v : Bool) (S D : List Nat) : Nat := wsp 0 (psd v S D p zs.length) + wsp 0 zs
def gd (p : Nat) (zs : List Nat) (v1 : Bool) (S : List Nat) (v2 : Bool) (D : List Nat) : Bool :=
  decide (fs p zs = 0 ∧ v1 = v2) && (wo p zs || decide (gr (tsum p zs v1 S D) = 65535))
theorem wsp_joined (v : Bool) (S D : List Nat) (p : Nat) (zs : List Nat) (hS : S.length = 16) (hD : D.length = 16) : wsp 0 (psd v S D p zs.length ++ zs) = tsum p zs v S D := by
  unfold tsum
  rw [wsp_append, psd_len v S D p _ hS hD]
  congr 1
  exact wsp_eq _ _ _ (by split <;> rfl)
end Go.Proofs.Ythionipmohbnhaa
namespace Go.Proofs.Ythionipmohbnhaa
open Go.RowKit
def dst6 (zs t : List Nat) : List Nat := ov zs t 24
end Go.Proofs.Ythionipmohbnhaa
namespace Go.Proofs.Ythionipmohbnhaa
open Go.RowKit
def mk6 (s d : List Nat) (p n : Nat) : List Nat := [96, 0, 0, 0] ++ bg 2 n ++ [p, 64] ++ s ++ d
theorem mk6_length (s d : List Nat) (hs : s.length = 16) (hd : d.length = 16) (p n : Nat) : (mk6 s d p n).length = 40 := by simp [mk6, bg_length, hs, hd]
theorem mk6_lt (s d : List Nat) (p n : Nat) (hs : ∀ c ∈ s, c < 256) (hd : ∀ c ∈ d, c < 256) (hp : p < 256) : ∀ c ∈ mk6 s d p n, c < 256 := by
  intro c hc
  unfold mk6 at hc
  simp only [List.mem_append] at hc
  rcases hc with (((h | h) | h) | h) | h
  · simp at h; omega
  · exact bg_lt 2 _ c h
  · simp at h; omega
  · exact hs c h
  · exact hd c h
end Go.Proofs.Ythionipmohbnhaa
namespace Go.Proofs.Ythionipmohbnhaa
open Go.RowKit
def midB (p f m : Nat) : List Nat := if p = 6 then [0, 0, 0, 0, 0, 0, 0, 0, 80, f, 0, 0, 0, 0, 0, 0] else bg 2 (8 + m) ++ [0, 0]
def seg0 (p sp dp f : Nat) (data : List Nat) : List Nat := bg 2 sp ++ bg 2 dp ++ midB p f data.length ++ data
def hsz (p : Nat) : Nat := if p = 6 then 20 else 8
theorem midB_len (p f m : Nat) : (midB p f m).length + 4 = hsz p := by unfold midB hsz; split <;> simp [bg_length]
theorem seg0_len (p sp dp f : Nat) (data : List Nat) : (seg0 p sp dp f data).length = hsz p + data.length := by
  have := midB_len p f data.length
  unfold seg0; simp only [List.length_append, bg_length]; omega
theorem midB_lt (p f m : Nat) (hf : f < 256) : ∀ c ∈ midB p f m, c < 256 := by
  intro c hc
  unfold midB at hc
  split at hc
  · simp at hc; omega
  · rcases List.mem_append.1 hc with h | h
    · exact bg_lt 2 _ c h
    · simp at h; omega
theorem seg0_lt (p sp dp f : Nat) (data : List Nat) (hf : f < 256) (hd : ∀ c ∈ data, c < 256) : ∀ c ∈ seg0 p sp dp f data, c < 256 := by
  intro c hc
  unfold seg0 at hc
  rcases List.mem_append.1 hc with h | h
  · rcases List.mem_append.1 h with h | h
    · rcases List.mem_append.1 h with h | h
      · exact bg_lt 2 _ c h
      · exact bg_lt 2 _ c h
    · exact midB_lt p f _ hf c h
  · exact hd c h
def ckB (p : Nat) (v : Bool) (S D : List Nat) (s0 : List Nat) : Nat :=
  if p = 17 ∧ 65535 - gr (tsum p s0 v S D) = 0 then 65535 else 65535 - gr (tsum p s0 v S D)
theorem ckB_lt (p : Nat) (v : Bool) (S D s0 : List Nat) : ckB p v S D s0 < 65536 := by unfold ckB; split <;> omega
def segB (p : Nat) (v : Bool) (S D : List Nat) (sp dp f : Nat) (data : List Nat) (bare : Bool) : List Nat :=
  if p = 17 ∧ bare = true then seg0 p sp dp f data else ov (seg0 p sp dp f data) (bg 2 (ckB p v S D (seg0 p sp dp f data))) (sAt p)
theorem segB_len (p : Nat) (hp : p = 6 ∨ p = 17) (v : Bool) (S D : List Nat) (sp dp f : Nat) (data : List Nat) (bare : Bool) : (segB p v S D sp dp f data bare).length = hsz p + data.length := by
  unfold segB
  split
  · exact seg0_len _ _ _ _ _
  · rw [ov_length _ _ _ (by rw [bg_length, seg0_len]; rcases hp with rfl | rfl <;> simp [sAt, hsz] <;> omega), seg0_len]
theorem segB_lt (p : Nat) (v : Bool) (S D : List Nat) (sp dp f : Nat) (data : List Nat) (bare : Bool) (hf : f < 256) (hd : ∀ c ∈ data, c < 256) : ∀ c ∈ segB p v S D sp dp f data bare, c < 256 := by
  unfold segB
  split
  · exact seg0_lt _ _ _ _ _ hf hd
  · exact ov_lt _ _ _ (seg0_lt _ _ _ _ _ hf hd) (bg_lt 2 _)
def ethB (tag v : Bool) : List Nat := [1, 2, 3, 4, 5, 6, 7, 8, 9, 10, 11, 12] ++ (if tag then [129, 0, 0, 7] else []) ++ (if v then [134, 221] else [8, 0])
def headB (v : Bool) (S D : List Nat) (p n : Nat) : List Nat := if v then mk6 S D p n else mk4 (S.take 4) (D.take 4) p n
def frmB (v : Bool) (S D : List Nat) (p sp dp f : Nat) (data : List Nat) (tag bare : Bool) (pad : Nat) : List Nat :=
  ethB tag v ++ headB v S D p (hsz p + data.length) ++ segB p v S D sp dp f data bare ++ List.replicate pad 0
def f12 (j : Nat) : List Nat := (List.range 12).map fun i => if i < j then i + 1 else 0
theorem f12_len (j : Nat) : (f12 j).length = 12 := by simp [f12]
theorem f12_zero : f12 0 = List.replicate 12 0 := by decide
theorem f12_all : f12 12 = [1, 2, 3, 4, 5, 6, 7, 8, 9, 10, 11, 12] := by decide
theorem f12_step (j : Nat) (h : j < 12) : (f12 j).set j (j + 1) = f12 (j + 1) := by
  have : ∀ j : Fin 12, (f12 j.1).set j.1 (j.1 + 1) = f12 (j.1 + 1) := by decide
  exact this ⟨j, h⟩
end Go.Proofs.Ythionipmohbnhaa
namespace Go.Proofs.Ythionipmohbnhaa
open Go.RowKit
theorem take_app {α : Type} (a b : List α) (n : Nat) (h : a.length = n) : (a ++ b).take n = a := by subst h; simp
theorem drop_app {α : Type} (a b : List α) (n : Nat) (h : a.length = n) : (a ++ b).drop n = b := by subst h; simp
theorem bg2 (n : Nat) : bg 2 n = [n / 256 % 256, n % 256] := rfl
theorem mk6_cons (s d data : List Nat) (p n : Nat) : mk6 s d p n ++ data = [96, 0, 0, 0, n / 256 % 256, n % 256, p, 64] ++ (s ++ (d ++ data)) := by
  simp [mk6, bg2]
theorem mk6_u2 (s d data : List Nat) (p n : Nat) (hn : n ≤ 65535) : u2 (mk6 s d p n ++ data) 4 = n := by
  rw [mk6_cons]
  simp [u2]; omega
theorem mk6_f (s d data : List Nat) (p n : Nat) (hs : s.length = 16) (hd : d.length = 16) (hn : n ≤ 65535) (hp : p = 6 ∨ p = 17) (hl : n ≤ data.length) : f6 (mk6 s d p n ++ data) = 0 := by
  have hlen : (mk6 s d p n ++ data).length = 40 + data.length := by rw [List.length_append, mk6_length s d hs hd]
  have h0 : (mk6 s d p n ++ data).getD 0 0 = 96 := rfl
  have h6 : (mk6 s d p n ++ data).getD 6 0 = p := by rw [mk6_cons]; rfl
  unfold f6
  rw [hlen, mk6_u2 s d data p n hn, h0, h6, if_neg (by omega), if_neg (by omega), if_neg (by omega), if_neg (by omega), if_neg (by omega)]
theorem mk6_src (s d data : List Nat) (p n : Nat) (hs : s.length = 16) : ((mk6 s d p n ++ data).drop 8).take 16 = s := by
  rw [mk6_cons, drop_app _ _ 8 rfl, take_app _ _ 16 hs]
theorem mk6_dst (s d data : List Nat) (p n : Nat) (hs : s.length = 16) (hd : d.length = 16) : ((mk6 s d p n ++ data).drop 24).take 16 = d := by
  rw [mk6_cons, show [96, 0, 0, 0, n / 256 % 256, n % 256, p, 64] ++ (s ++ (d ++ data)) = ([96, 0, 0, 0, n / 256 % 256, n % 256, p, 64] ++ s) ++ (d ++ data) by simp, drop_app _ _ 24 (by simp [hs]), take_app _ _ 16 hd]
end Go.Proofs.Ythionipmohbnhaa
namespace Go.Proofs.Ythionipmohbnhaa
open Go.RowKit
theorem gr_full (u : Nat) : gr u = 65535 ↔ u ≠ 0 ∧ u % 65535 = 0 := by unfold gr; split <;> omega
theorem ck_zero (b : List Nat) : ck b = 0 ↔ wsp 0 b ≠ 0 ∧ wsp 0 b % 65535 = 0 := by
  rw [← gr_full]
  have := gr_le (wsp 0 b)
  unfold ck
  omega
theorem wsp_first (b : List Nat) (h : 0 < b.length) (h0 : 0 < b.getD 0 0) : wsp 0 b ≠ 0 := by
  cases b with
  | nil => cases h
  | cons x r =>
    have : 0 < x := by simpa using h0
    simp only [wsp]
    rw [wt_even 0 rfl]
    omega
theorem ck_put (H : List Nat) (h20 : 12 ≤ H.length) (h0 : 0 < H.getD 0 0) (hz : u2 H 10 = 0) : ck (ov H (bg 2 (ck H)) 10) = 0 := by
  have hl := bg_length 2 (ck H)
  have h1 := ov_wsp H (bg 2 (ck H)) 10 rfl (by rw [hl]; omega) (by rw [hl])
  rw [hl, wsp_two_at H 10 (by omega), hz, wsp_bg _ (by have := ck_le H; omega)] at h1
  have h2 := ck_mod H
  rw [ck_zero]
  refine ⟨wsp_first _ (by rw [ov_length _ _ _ (by rw [hl]; omega)]; omega) (by rw [ov_get_off _ _ _ _ (by rw [hl]; omega) (by omega)]; exact h0), ?_⟩
  omega
end Go.Proofs.Ythionipmohbnhaa
namespace Go.Proofs.Ythionipmohbnhaa
open Go.RowKit
def dst4 (zs t : List Nat) : List Nat := ov (ov zs (bg 2 (chA (u2 zs 10) ((zs.drop 16).take 4) t)) 10) t 16
end Go.Proofs.Ythionipmohbnhaa
namespace Go.Proofs.Ythionipmohbnhaa
open Go.RowKit
section
variable {zs t : List Nat} (h : ff zs = 0) (ht : t.length = 4)
include h ht
theorem dst_facts : 20 ≤ zs.length ∧ 10 + (bg 2 (chA (u2 zs 10) ((zs.drop 16).take 4) t)).length ≤ zs.length ∧ 16 + t.length ≤ (ov zs (bg 2 (chA (u2 zs 10) ((zs.drop 16).take 4) t)) 10).length := by
  obtain ⟨h20, -⟩ := ff_yes zs h
  have hl : 10 + (bg 2 (chA (u2 zs 10) ((zs.drop 16).take 4) t)).length ≤ zs.length := by rw [bg_length]; omega
  exact ⟨h20, hl, by rw [ov_length _ _ _ hl]; omega⟩
theorem dst_length : (dst4 zs t).length = zs.length := by
  obtain ⟨_, h1, h2⟩ := dst_facts h ht
  unfold dst4
  rw [ov_length _ _ _ h2, ov_length _ _ _ h1]
theorem dst_get (i : Nat) (hi : i < 10 ∨ (12 ≤ i ∧ i < 16) ∨ 20 ≤ i) : (dst4 zs t).getD i 0 = zs.getD i 0 := by
  obtain ⟨_, h1, h2⟩ := dst_facts h ht
  unfold dst4
  rw [ov_get_off _ _ _ _ h2 (by omega), ov_get_off _ _ _ _ h1 (by rw [bg_length]; omega)]
theorem dst_drop (n : Nat) (hn : 20 ≤ n) : (dst4 zs t).drop n = zs.drop n := by
  obtain ⟨_, h1, h2⟩ := dst_facts h ht
  unfold dst4
  rw [ov_drop_off _ _ _ _ (by omega) h2, ov_drop_off _ _ _ _ (by rw [bg_length]; omega) h1]
theorem dst_src : ((dst4 zs t).drop 12).take 4 = (zs.drop 12).take 4 := by
  obtain ⟨_, h1, h2⟩ := dst_facts h ht
  unfold dst4
  rw [mid_off _ _ _ _ _ h2 (by omega), mid_off _ _ _ _ _ h1 (by rw [bg_length]; omega)]
theorem dst_dst : ((dst4 zs t).drop 16).take 4 = t := by
  obtain ⟨_, h1, h2⟩ := dst_facts h ht
  unfold dst4
  have := ov_mid (ov zs (bg 2 (chA (u2 zs 10) ((zs.drop 16).take 4) t)) 10) t 16 h2
  rwa [ht] at this
omit h ht in
theorem dst_lt (hb : ∀ c ∈ zs, c < 256) (htb : ∀ c ∈ t, c < 256) : ∀ c ∈ dst4 zs t, c < 256 := ov_lt _ _ _ (ov_lt _ _ _ hb (bg_lt _ _)) htb
theorem dst_ff (hb : ∀ c ∈ zs, c < 256) : ff (dst4 zs t) = 0 := by
  obtain ⟨h20, hv, hs1, hs2, hs3, hc, hf, hp⟩ := ff_yes zs h
  have hs60 := hs_lt zs
  have g0 := dst_get h ht 0 (by omega)
  have g9 := dst_get h ht 9 (by omega)
  have e2 : u2 (dst4 zs t) 2 = u2 zs 2 := by unfold u2; rw [dst_get h ht 2 (by omega), dst_get h ht 3 (by omega)]
  have e6 : u2 (dst4 zs t) 6 = u2 zs 6 := by unfold u2; rw [dst_get h ht 6 (by omega), dst_get h ht 7 (by omega)]
  have es : hs (dst4 zs t) = hs zs := by unfold hs; rw [g0]
  have el := dst_length h ht
  have hck : ck ((dst4 zs t).take (hs zs)) = 0 := by
    obtain ⟨_, h1, h2⟩ := dst_facts h ht
    obtain ⟨s, hse⟩ : ∃ s, s = hs zs := ⟨_, rfl⟩
    have hse2 : s % 2 = 0 := by rw [hse]; unfold hs; omega
    rw [← hse] at hc hs1 ⊢
    have hsl : s ≤ zs.length := by omega
    have h2' := h2
    rw [ov_length _ _ _ h1] at h2'
    have et : (dst4 zs t).take s = ov (ov (zs.take s) (bg 2 (chA (u2 zs 10) ((zs.drop 16).take 4) t)) 10) t 16 := by
      unfold dst4
      rw [ov_take _ _ _ _ (by omega) (by rw [ov_length _ _ _ h1]; exact hsl), ov_take _ _ _ _ (by rw [bg_length]; omega) hsl]
    have zl : (zs.take s).length = s := by simp; omega
    have hV := chA_lt (u2 zs 10) ((zs.drop 16).take 4) t (u2_lt zs 10 hb)
    have ol : ((zs.drop 16).take 4).length = 4 := by simp; omega
    have w1 := ov_wsp (zs.take s) (bg 2 (chA (u2 zs 10) ((zs.drop 16).take 4) t)) 10 rfl (by rw [bg_length]; omega) (by rw [bg_length])
    rw [bg_length, wsp_two_at _ _ (by omega), u2_take _ _ _ (by omega), wsp_bg _ hV] at w1
    have w2 := ov_wsp (ov (zs.take s) (bg 2 (chA (u2 zs 10) ((zs.drop 16).take 4) t)) 10) t 16 rfl (by rw [ov_length _ _ _ (by rw [bg_length]; omega)]; omega) (by omega)
    have em : ((ov (zs.take s) (bg 2 (chA (u2 zs 10) ((zs.drop 16).take 4) t)) 10).drop 16).take t.length = (zs.drop 16).take 4 := by
      rw [ht, mid_off _ _ _ _ _ (by rw [bg_length]; omega) (by rw [bg_length]; omega), List.drop_take, List.take_take, Nat.min_eq_left (by omega)]
    rw [em] at w2
    have hm := chg_mod (u2 zs 10) ((zs.drop 16).take 4) t (by have := u2_lt zs 10 hb; omega) (fun c hc => hb c (List.mem_of_mem_drop (List.mem_of_mem_take hc))) 2 (by omega) (by omega)
    rw [List.take_of_length_le (l := t) (by omega), List.take_of_length_le (l := (zs.drop 16).take 4) (by omega), ← chA_yes (u2 zs 10) ((zs.drop 16).take 4) t 2 (by omega) (by omega)] at hm
    rw [ck_zero] at hc
    rw [et, ck_zero]
    refine ⟨wsp_first _ (by rw [ov_length _ _ _ (by rw [ov_length _ _ _ (by rw [bg_length]; omega)]; omega), ov_length _ _ _ (by rw [bg_length]; omega)]; omega) ?_, ?_⟩
    · rw [← et]
      have : ((dst4 zs t).take s).getD 0 0 = zs.getD 0 0 := by rw [← g0]; simp [List.getD_eq_getElem?_getD, show 0 < s by omega]
      rw [this]; omega
    · omega
  unfold ff
  rw [if_neg (by omega), g0, es, e2, if_neg (by omega), if_neg (by omega), hck, e6, g9, if_neg (by omega), if_neg (by omega), if_neg (by omega)]
end
end Go.Proofs.Ythionipmohbnhaa
namespace Go.Proofs.Ythionipmohbnhaa
open Go.RowKit
theorem list4 (s : List Nat) (h : s.length = 4) : ∃ a b c d, s = [a, b, c, d] := by
  match s, h with
  | [a, b, c, d], _ => exact ⟨a, b, c, d, rfl⟩
theorem mk4_lit (s0 s1 s2 s3 d0 d1 d2 d3 p n : Nat) : ∃ x y, mk4 [s0, s1, s2, s3] [d0, d1, d2, d3] p n = [69, 0, (20 + n) / 256 % 256, (20 + n) % 256, 0, 0, 64, 0, 64, p, x, y, s0, s1, s2, s3, d0, d1, d2, d3] :=
  ⟨ck (mk0 [s0, s1, s2, s3] [d0, d1, d2, d3] p n) / 256 % 256, ck (mk0 [s0, s1, s2, s3] [d0, d1, d2, d3] p n) % 256, rfl⟩
theorem mk4_ck (s d : List Nat) (hs : s.length = 4) (hd : d.length = 4) (p n : Nat) : ck (mk4 s d p n) = 0 := by
  have hl := mk0_length s d hs hd p n
  refine ck_put _ (by omega) ?_ ?_
  · show 0 < 69; omega
  · obtain ⟨s0, s1, s2, s3, rfl⟩ := list4 s hs
    simp [u2, mk0, bg]
set_option maxRecDepth 10000 in
set_option maxHeartbeats 200000 in
theorem mk_read (s d data : List Nat) (p n : Nat) (hs1 : s.length = 4) (hd1 : d.length = 4) (hn : data.length = n) (hn2 : n ≤ 65515) (hp : p = 6 ∨ p = 17) :
    ff (mk4 s d p n ++ data) = 0 ∧ hd (mk4 s d p n ++ data) = hcells 20 (20 + n) p (a4 s) (a4 d) ∧ ((mk4 s d p n ++ data).drop 16).take 4 = d ∧ hs (mk4 s d p n ++ data) = 20 ∧ u2 (mk4 s d p n ++ data) 2 = 20 + n ∧ (mk4 s d p n ++ data).getD 9 0 = p ∧ ((mk4 s d p n ++ data).drop 12).take 4 = s ∧ (mk4 s d p n ++ data).length = 20 + n := by
  have hck := mk4_ck s d hs1 hd1 p n
  obtain ⟨s0, s1, s2, s3, es⟩ := list4 s hs1
  obtain ⟨d0, d1, d2, d3, ed⟩ := list4 d hd1
  clear hs1 hd1
  subst es ed
  obtain ⟨x, y, e⟩ := mk4_lit s0 s1 s2 s3 d0 d1 d2 d3 p n
  rw [e] at hck ⊢
  obtain ⟨Z, hZ⟩ : ∃ Z, Z = [69, 0, (20 + n) / 256 % 256, (20 + n) % 256, 0, 0, 64, 0, 64, p, x, y, s0, s1, s2, s3, d0, d1, d2, d3] ++ data := ⟨_, rfl⟩
  have zl : Z.length = 20 + n := by rw [hZ, List.length_append, hn]; simp
  have g0 : Z.getD 0 0 = 69 := by rw [hZ]; simp
  have g9 : Z.getD 9 0 = p := by rw [hZ]; simp
  have e2 : u2 Z 2 = 20 + n := by
    have : u2 Z 2 = (20 + n) / 256 % 256 * 256 + (20 + n) % 256 := by rw [hZ]; simp [u2]
    omega
  have e6 : u2 Z 6 = 16384 := by rw [hZ]; simp [u2]
  have t20 : Z.take 20 = [69, 0, (20 + n) / 256 % 256, (20 + n) % 256, 0, 0, 64, 0, 64, p, x, y, s0, s1, s2, s3, d0, d1, d2, d3] := by rw [hZ]; simp
  have m12 : (Z.drop 12).take 4 = [s0, s1, s2, s3] := by rw [hZ]; simp
  have m16 : (Z.drop 16).take 4 = [d0, d1, d2, d3] := by rw [hZ]; simp
  have es : hs Z = 20 := by unfold hs; rw [g0]
  rw [← hZ]
  have hff : ff Z = 0 := by
    unfold ff
    rw [if_neg (by omega), g0, es, e2, if_neg (by omega), if_neg (by omega), t20, hck, e6, g9, if_neg (by omega), if_neg (by omega), if_neg (by omega)]
  refine ⟨hff, ?_, m16, es, e2, g9, m12, zl⟩
  unfold hd
  rw [if_pos hff, es, e2, g9, m12, m16]
end Go.Proofs.Ythionipmohbnhaa
namespace Go.Proofs.Ythionipmohbnhaa
open Go.RowKit
theorem seg0_tcp (sp dp f : Nat) (data : List Nat) : seg0 6 sp dp f data = [sp / 256 % 256, sp % 256, dp / 256 % 256, dp % 256, 0, 0, 0, 0, 0, 0, 0, 0, 80, f, 0, 0, 0, 0, 0, 0] ++ data := by
  simp [seg0, midB, bg2]
theorem seg0_udp (sp dp f : Nat) (data : List Nat) : seg0 17 sp dp f data = [sp / 256 % 256, sp % 256, dp / 256 % 256, dp % 256, (8 + data.length) / 256 % 256, (8 + data.length) % 256, 0, 0] ++ data := by
  simp [seg0, midB, bg2]
theorem segB_get (p : Nat) (hp : p = 6 ∨ p = 17) (v : Bool) (S D : List Nat) (sp dp f : Nat) (data : List Nat) (bare : Bool) (i : Nat) (hi : i < sAt p ∨ sAt p + 2 ≤ i) :
    (segB p v S D sp dp f data bare).getD i 0 = (seg0 p sp dp f data).getD i 0 := by
  unfold segB
  split
  · rfl
  · refine ov_get_off _ _ _ _ ?_ (by rw [bg_length]; exact hi)
    rw [bg_length, seg0_len]
    rcases hp with rfl | rfl <;> simp [sAt, hsz] <;> omega
theorem segB_fs (p : Nat) (hp : p = 6 ∨ p = 17) (v : Bool) (S D : List Nat) (sp dp f : Nat) (data : List Nat) (bare : Bool) (hl : data.length ≤ 2000) : fs p (segB p v S D sp dp f data bare) = 0 := by
  have hlen := segB_len p hp v S D sp dp f data bare
  rcases hp with rfl | rfl
  · have h12 := segB_get 6 (.inl rfl) v S D sp dp f data bare 12 (.inl (by simp [sAt]))
    rw [seg0_tcp] at h12
    have h12 : (segB 6 v S D sp dp f data bare).getD 12 0 = 80 := h12
    refine fs_six _ ?_ ?_ ?_
    · rw [hlen]; simp [hsz]
    · unfold tz; rw [h12]; omega
    · unfold tz; rw [h12, hlen]; simp [hsz]
  · have h4 := segB_get 17 (.inr rfl) v S D sp dp f data bare 4 (.inl (by simp [sAt]))
    have h5 := segB_get 17 (.inr rfl) v S D sp dp f data bare 5 (.inl (by simp [sAt]))
    rw [seg0_udp] at h4 h5
    have e : u2 (segB 17 v S D sp dp f data bare) 4 = 8 + data.length := by
      unfold u2; rw [h4, h5]
      show (8 + data.length) / 256 % 256 * 256 + (8 + data.length) % 256 = _
      omega
    refine fs_udp _ ?_ ?_ ?_
    · rw [hlen]; simp [hsz]
    · rw [e]; omega
    · rw [e, hlen]; simp [hsz]
theorem segB_ports (p : Nat) (hp : p = 6 ∨ p = 17) (v : Bool) (S D : List Nat) (sp dp f : Nat) (data : List Nat) (bare : Bool) (h1 : sp < 65536) (h2 : dp < 65536) :
    u2 (segB p v S D sp dp f data bare) 0 = sp ∧ u2 (segB p v S D sp dp f data bare) 2 = dp ∧ fl p (segB p v S D sp dp f data bare) = if p = 6 then f else 0 := by
  have hs : 4 ≤ sAt p := by rcases hp with rfl | rfl <;> simp [sAt]
  have g0 := segB_get p hp v S D sp dp f data bare 0 (.inl (by omega))
  have g1 := segB_get p hp v S D sp dp f data bare 1 (.inl (by omega))
  have g2 := segB_get p hp v S D sp dp f data bare 2 (.inl (by omega))
  have g3 := segB_get p hp v S D sp dp f data bare 3 (.inl (by omega))
  rcases hp with rfl | rfl
  · have g13 := segB_get 6 (.inl rfl) v S D sp dp f data bare 13 (.inl (by simp [sAt]))
    rw [seg0_tcp] at g0 g1 g2 g3 g13
    refine ⟨?_, ?_, ?_⟩
    · unfold u2; rw [g0, g1]; show sp / 256 % 256 * 256 + sp % 256 = sp; omega
    · unfold u2; rw [g2, g3]; show dp / 256 % 256 * 256 + dp % 256 = dp; omega
    · unfold fl; rw [if_pos rfl, if_pos rfl, g13]; rfl
  · rw [seg0_udp] at g0 g1 g2 g3
    refine ⟨?_, ?_, ?_⟩
    · unfold u2; rw [g0, g1]; show sp / 256 % 256 * 256 + sp % 256 = sp; omega
    · unfold u2; rw [g2, g3]; show dp / 256 % 256 * 256 + dp % 256 = dp; omega
    · rfl
theorem headB_len (v : Bool) (S D : List Nat) (p n : Nat) (hS : S.length = 16) (hD : D.length = 16) : (headB v S D p n).length = if v then 40 else 20 := by
  unfold headB
  cases v with
  | true => exact mk6_length S D hS hD p n
  | false =>
    show (mk4 (S.take 4) (D.take 4) p n).length = 20
    have := mk0_length (S.take 4) (D.take 4) (by simp [hS]) (by simp [hD]) p n
    unfold mk4
    rw [ov_length _ _ _ (by rw [bg_length]; omega)]
    exact this
theorem a4_take (S : List Nat) (hS : S.length = 16) (hv : vldA false S = true) : a4 (S.take 4) = cellsA false S := by
  have hv := (vldA_spec.1 hv).resolve_left (by simp)
  unfold a4
  congr 1
  refine ext_getD _ _ 0 (by simp [hS]) fun i hi => ?_
  have hi : i < 16 := by simp [hS] at hi; omega
  by_cases h4 : i < 4
  · rw [List.getD_eq_getElem?_getD, List.getElem?_append_left (by simp [hS]; omega), List.getElem?_take_of_lt h4, List.getD_eq_getElem?_getD]
  · rw [hv i (by omega) hi, List.getD_eq_getElem?_getD, List.getElem?_append_right (by simp [hS]; omega), List.getElem?_replicate]
    split <;> rfl
end Go.Proofs.Ythionipmohbnhaa
namespace Go.Proofs.Ythionipmohbnhaa
open Go.RowKit
theorem wsp_pos : ∀ (l : List Nat) (p : Nat), (∃ x ∈ l, 0 < x) → 0 < wsp p l
  | [], _, h => by obtain ⟨x, h, -⟩ := h; cases h
  | y :: r, p, h => by
    obtain ⟨x, hx, h0⟩ := h
    simp only [wsp]
    rcases List.mem_cons.1 hx with rfl | hx
    · have : 0 < x * wt p := Nat.mul_pos h0 (by unfold wt; split <;> omega)
      omega
    · have := wsp_pos r (p + 1) ⟨x, hx, h0⟩
      omega
theorem tsum_pos (p : Nat) (zs : List Nat) (v : Bool) (S D : List Nat) (hp : 0 < p) : 0 < tsum p zs v S D := by
  unfold tsum
  have : 0 < wsp 0 (psd v S D p zs.length) := wsp_pos _ 0 ⟨p, by unfold psd; cases v <;> simp, hp⟩
  omega
theorem gd_yes (p : Nat) (zs : List Nat) (v : Bool) (S D : List Nat) (hp : 0 < p) (h : fs p zs = 0) (h2 : wo p zs = true ∨ tsum p zs v S D % 65535 = 0) : gd p zs v S v D = true := by
  unfold gd
  rw [decide_eq_true ⟨h, rfl⟩, Bool.true_and]
  rcases h2 with h2 | h2
  · rw [h2]; rfl
  · rw [decide_eq_true ((gr_full _).2 ⟨Nat.ne_of_gt (tsum_pos p zs v S D hp), h2⟩), Bool.or_true]
theorem gd_no (p : Nat) (zs : List Nat) (v : Bool) (S D : List Nat) (h : wo p zs = false) (h2 : tsum p zs v S D % 65535 ≠ 0) : gd p zs v S v D = false := by
  unfold gd
  rw [h, Bool.false_or, decide_eq_false (fun e => h2 ((gr_full _).1 e).2), Bool.and_false]
theorem u2_ov (zs : List Nat) (c k : Nat) (h : k + 2 ≤ zs.length) (hc : c < 65536) : u2 (ov zs (bg 2 c) k) k = c := by
  have hl := bg_length 2 c
  unfold u2
  rw [ov_get _ _ _ _ (by omega), ov_get _ _ _ _ (by omega), hl, if_pos (by omega), if_pos (by omega), Nat.sub_self, show k + 1 - k = 1 by omega, bg2]
  show c / 256 % 256 * 256 + c % 256 = c
  omega
theorem sAt_len (p : Nat) (hp : p = 6 ∨ p = 17) : 6 ≤ sAt p ∧ sAt p + 2 ≤ hsz p ∧ sAt p % 2 = 0 := by rcases hp with rfl | rfl <;> simp [sAt, hsz]
theorem seg0_ck (p : Nat) (hp : p = 6 ∨ p = 17) (sp dp f : Nat) (data : List Nat) : u2 (seg0 p sp dp f data) (sAt p) = 0 := by
  rcases hp with rfl | rfl
  · rw [seg0_tcp]; unfold u2; simp [sAt]
  · rw [seg0_udp]; unfold u2; simp [sAt]
theorem built_wo (p : Nat) (hp : p = 6 ∨ p = 17) (v : Bool) (S D : List Nat) (sp dp f : Nat) (data : List Nat) (bare : Bool) : wo p (segB p v S D sp dp f data bare) = decide (p = 17 ∧ bare = true) := by
  obtain ⟨h6, hl, -⟩ := sAt_len p hp
  rcases hp with rfl | rfl
  · unfold wo; rw [decide_eq_false (by omega), decide_eq_false (by omega)]
  · by_cases hb : bare = true
    · rw [decide_eq_true ⟨rfl, hb⟩]
      unfold wo segB
      rw [if_pos ⟨rfl, hb⟩]
      exact decide_eq_true ⟨rfl, seg0_ck 17 (.inr rfl) sp dp f data⟩
    · rw [decide_eq_false (fun h : (17 : Nat) = 17 ∧ bare = true => hb h.2)]
      unfold wo segB
      rw [if_neg (fun h : (17 : Nat) = 17 ∧ bare = true => hb h.2)]
      refine decide_eq_false (fun h => ?_)
      have h := h.2
      have e := u2_ov (seg0 17 sp dp f data) (ckB 17 v S D (seg0 17 sp dp f data)) 6 (by rw [seg0_len]; show 6 + 2 ≤ 8 + _; omega) (ckB_lt _ _ _ _ _)
      rw [show sAt 17 = 6 from rfl, e] at h
      unfold ckB at h
      split at h <;> omega
theorem built_sum (p : Nat) (hp : p = 6 ∨ p = 17) (v : Bool) (S D : List Nat) (sp dp f : Nat) (data : List Nat) (bare : Bool) (hb : ¬ (p = 17 ∧ bare = true)) : tsum p (segB p v S D sp dp f data bare) v S D % 65535 = 0 := by
  obtain ⟨h6, hl, he⟩ := sAt_len p hp
  have hlen := seg0_len p sp dp f data
  have hck := seg0_ck p hp sp dp f data
  unfold segB
  rw [if_neg hb]
  generalize seg0 p sp dp f data = s0 at *
  have hc := ckB_lt p v S D s0
  have hm := gr_mod (tsum p s0 v S D)
  have hle := gr_le (tsum p s0 v S D)
  have hck2 : ckB p v S D s0 % 65535 = (65535 - gr (tsum p s0 v S D)) % 65535 := by unfold ckB; split <;> omega
  generalize ckB p v S D s0 = c at *
  have hbl := bg_length 2 c
  have hw := ov_wsp s0 (bg 2 c) (sAt p) he (by omega) (by omega)
  rw [hbl, wsp_two_at s0 (sAt p) (by omega), hck, wsp_bg c hc] at hw
  have hl2 : (ov s0 (bg 2 c) (sAt p)).length = s0.length := ov_length _ _ _ (by omega)
  unfold tsum at hm hle hck2 ⊢
  rw [hl2]
  omega
theorem built_good (p : Nat) (hp : p = 6 ∨ p = 17) (v : Bool) (S D : List Nat) (sp dp f : Nat) (data : List Nat) (bare : Bool) (hl : data.length ≤ 2000) : gd p (segB p v S D sp dp f data bare) v S v D = true := by
  refine gd_yes p _ v S D (by omega) (segB_fs p hp v S D sp dp f data bare hl) ?_
  by_cases hb : p = 17 ∧ bare = true
  · exact .inl (by rw [built_wo p hp, decide_eq_true hb])
  · exact .inr (built_sum p hp v S D sp dp f data bare hb)
structure Ported (p : Nat) (zs : List Nat) (tp : Nat) (v : Bool) (F D : List Nat) : Prop where
  len : (prt p zs tp v F D).length = zs.length
  lt : ∀ c ∈ prt p zs tp v F D, c < 256
  get : ∀ i, i ≠ 2 → i ≠ 3 → i ≠ sAt p → i ≠ sAt p + 1 → (prt p zs tp v F D).getD i 0 = zs.getD i 0
  fs : fs p (prt p zs tp v F D) = 0
  u0 : u2 (prt p zs tp v F D) 0 = u2 zs 0
  u2 : u2 (prt p zs tp v F D) 2 = tp
  wo : wo p (prt p zs tp v F D) = wo p zs
  bare : Go.Proofs.Ythionipmohbnhaa.wo p zs = true → prt p zs tp v F D = ov zs (bg 2 tp) 2
  sum : Go.Proofs.Ythionipmohbnhaa.wo p zs = false → ∀ S : List Nat, S.length = 16 → tsum p (prt p zs tp v F D) v S D % 65535 = tsum p zs v S F % 65535
theorem psd_wsp (v : Bool) (p n : Nat) : ∃ r, ∀ S D : List Nat, S.length = 16 → D.length = 16 → wsp 0 (psd v S D p n) = wsp 0 (bytesA v S) + wsp 0 (bytesA v D) + r := by
  refine ⟨wsp 0 (if v then bg 4 n ++ [0, 0, 0, p] else [0, p] ++ bg 2 n), fun S D hS hD => ?_⟩
  unfold psd
  rw [wsp_append, wsp_append, List.length_append, bytesA_len v S hS, bytesA_len v D hD]
  congr 1
  · congr 1
    exact wsp_eq _ _ _ (by cases v <;> rfl)
  · exact wsp_eq _ _ _ (by cases v <;> rfl)
theorem ported (p : Nat) (zs : List Nat) (tp : Nat) (v : Bool) (F D : List Nat) (hb : ∀ c ∈ zs, c < 256) (h : fs p zs = 0) (ht : tp < 65536) (hF : F.length = 16) (hD : D.length = 16) (hbF : ∀ c ∈ F, c < 256) : Ported p zs tp v F D := by
  have hp : p = 6 ∨ p = 17 := by rcases fs_yes p zs h with ⟨e, -⟩ | ⟨e, -⟩; exact .inl e; exact .inr e
  have hat := sAt_in p zs h
  obtain ⟨h6, -, he⟩ := sAt_len p hp
  have hbt := bg_length 2 tp
  have hpc := pc_lt p zs tp v F D hb
  have hbc := bg_length 2 (pc p zs tp v F D)
  have lZ : (ov zs (bg 2 tp) 2).length = zs.length := ov_length _ _ _ (by omega)
  have gZ : ∀ i, i ≠ 2 → i ≠ 3 → (ov zs (bg 2 tp) 2).getD i 0 = zs.getD i 0 := fun i h1 h2 => ov_get_off _ _ _ _ (by omega) (by omega)
  have lC : (prt p zs tp v F D).length = zs.length := by
    unfold prt; split
    · exact lZ
    · rw [ov_length _ _ _ (by omega), lZ]
  have gC : ∀ i, i ≠ 2 → i ≠ 3 → i ≠ sAt p → i ≠ sAt p + 1 → (prt p zs tp v F D).getD i 0 = zs.getD i 0 := fun i h1 h2 h3 h4 => by
    unfold prt; split
    · exact gZ i h1 h2
    · rw [ov_get_off _ _ _ _ (by omega) (by omega), gZ i h1 h2]
  have hfs : fs p (prt p zs tp v F D) = 0 := by
    rcases fs_yes p zs h with ⟨rfl, q1, q2, q3⟩ | ⟨rfl, q1, q2, q3⟩
    · have g := gC 12 (by omega) (by omega) (by simp [sAt]) (by simp [sAt])
      have e : tz (prt 6 zs tp v F D) = tz zs := by unfold tz; rw [g]
      exact fs_six _ (by omega) (by omega) (by omega)
    · have g1 := gC 4 (by omega) (by omega) (by simp [sAt]) (by simp [sAt])
      have g2 := gC 5 (by omega) (by omega) (by simp [sAt]) (by simp [sAt])
      have e : Go.Proofs.Ythionipmohbnhaa.u2 (prt 17 zs tp v F D) 4 = Go.Proofs.Ythionipmohbnhaa.u2 zs 4 := by unfold Go.Proofs.Ythionipmohbnhaa.u2; rw [g1, g2]
      exact fs_udp _ (by omega) (by omega) (by omega)
  have hu0 : u2 (prt p zs tp v F D) 0 = u2 zs 0 := by unfold u2; rw [gC 0 (by omega) (by omega) (by omega) (by omega), gC 1 (by omega) (by omega) (by omega) (by omega)]
  have hZ2 : u2 (ov zs (bg 2 tp) 2) 2 = tp := u2_ov zs tp 2 (by omega) ht
  have hZa : u2 (ov zs (bg 2 tp) 2) (sAt p) = u2 zs (sAt p) := by unfold u2; rw [gZ _ (by omega) (by omega), gZ _ (by omega) (by omega)]
  have hu2 : u2 (prt p zs tp v F D) 2 = tp := by
    unfold prt; split
    · exact hZ2
    · rw [ov_u2_off _ _ _ _ (by omega) (by omega), hZ2]
  have hCa : wo p zs = false → u2 (prt p zs tp v F D) (sAt p) = pc p zs tp v F D := fun hw => by
    unfold prt; rw [hw]; exact u2_ov _ _ _ (by omega) hpc
  have hwo : wo p (prt p zs tp v F D) = wo p zs := by
    by_cases hw : wo p zs = true
    · have e : prt p zs tp v F D = ov zs (bg 2 tp) 2 := by unfold prt; rw [if_pos hw]
      rw [hw, e]
      have hw2 := of_decide_eq_true hw
      obtain ⟨rfl, h0⟩ := hw2
      exact decide_eq_true ⟨rfl, by rw [show (6 : Nat) = sAt 17 from rfl, hZa]; exact h0⟩
    · have hw := Bool.eq_false_iff.2 hw
      rw [hw]
      refine decide_eq_false ?_
      rintro ⟨rfl, h0⟩
      have := hCa hw
      rw [show sAt 17 = 6 from rfl, h0] at this
      unfold pc at this
      split at this <;> omega
  refine ⟨lC, ?_, gC, hfs, hu0, hu2, hwo, fun hw => by unfold prt; rw [if_pos hw], fun hw S hS => ?_⟩
  · unfold prt; split
    · exact ov_lt _ _ _ hb (bg_lt 2 _)
    · exact ov_lt _ _ _ (ov_lt _ _ _ hb (bg_lt 2 _)) (bg_lt 2 _)
  · have hC : prt p zs tp v F D = ov (ov zs (bg 2 tp) 2) (bg 2 (pc p zs tp v F D)) (sAt p) := by unfold prt; rw [hw]; rfl
    have w1 := ov_wsp zs (bg 2 tp) 2 rfl (by omega) (by omega)
    rw [hbt, wsp_two_at zs 2 (by omega), wsp_bg tp ht] at w1
    have w2 := ov_wsp (ov zs (bg 2 tp) 2) (bg 2 (pc p zs tp v F D)) (sAt p) he (by omega) (by omega)
    rw [hbc, wsp_two_at _ (sAt p) (by omega), wsp_bg _ hpc, hZa, ← hC] at w2
    obtain ⟨r, hr⟩ := psd_wsp v p zs.length
    have p1 := hr S D hS hD
    have p2 := hr S F hS hF
    have lF := bytesA_len v F hF
    have lD := bytesA_len v D hD
    have l2 := two_at zs 2 (by omega)
    have hol := u2_lt zs (sAt p) hb
    have c0 : (chA (u2 zs (sAt p)) ((zs.drop 2).take 2) (bg 2 tp) + tp) % 65535 = (u2 zs (sAt p) + u2 zs 2) % 65535 := by
      rw [chA_yes _ _ _ 1 l2 hbt]
      have := chg_mod (u2 zs (sAt p)) ((zs.drop 2).take 2) (bg 2 tp) (by omega) (fun c hc => hb c (List.mem_of_mem_drop (List.mem_of_mem_take hc))) 1 (by omega) (by omega)
      have t1 : (bg 2 tp).take (2 * 1) = bg 2 tp := List.take_of_length_le (by omega)
      have t2 : ((zs.drop 2).take 2).take (2 * 1) = (zs.drop 2).take 2 := List.take_of_length_le (by omega)
      rwa [t1, t2, wsp_bg tp ht, wsp_two_at zs 2 (by omega)] at this
    have hc0 : chA (u2 zs (sAt p)) ((zs.drop 2).take 2) (bg 2 tp) < 65536 := chA_lt _ _ _ hol
    have c1 : (pc1 p zs tp v F D + wsp 0 (bytesA v D)) % 65535 = (chA (u2 zs (sAt p)) ((zs.drop 2).take 2) (bg 2 tp) + wsp 0 (bytesA v F)) % 65535 := by
      unfold pc1
      generalize chA (u2 zs (sAt p)) ((zs.drop 2).take 2) (bg 2 tp) = o at *
      obtain ⟨m, hm⟩ : ∃ m, (if v then 16 else 4) = 2 * m := by cases v; exact ⟨2, rfl⟩; exact ⟨8, rfl⟩
      rw [chA_yes _ _ _ m (by rw [lF, hm]) (by rw [lD, hm])]
      have := chg_mod o (bytesA v F) (bytesA v D) (by omega) (bytesA_lt v F hbF) m (by omega) (by omega)
      have t1 : (bytesA v F).take (2 * m) = bytesA v F := List.take_of_length_le (by omega)
      have t2 : (bytesA v D).take (2 * m) = bytesA v D := List.take_of_length_le (by omega)
      rwa [t1, t2] at this
    have c2 : pc p zs tp v F D % 65535 = pc1 p zs tp v F D % 65535 := by unfold pc; split <;> omega
    unfold tsum
    rw [lC, p1, p2]
    omega
end Go.Proofs.Ythionipmohbnhaa
namespace Go.Proofs.Ythionipmohbnhaa
open Go.RowKit
def pv (six : Bool) (at0 : Nat) (T : List Nat) : Array Value :=
  if fhr six T = 0 then vcells six at0 (at0 + fS six T) (at0 + fL six T) (kcells (fP six T) (fA six T) (fB six T) 0 0) 0 else v0
theorem pv_all (six : Bool) (at0 : Nat) (T : List Nat) : (pv six at0 T).all (·.oneCell') = true := by
  unfold pv; split
  · exact vcells_all _ _ _ _ _ _ (kcells_all _ _ _ _ _ (fA_all _ _) (fB_all _ _))
  · exact v0_all
theorem pv_size (six : Bool) (at0 : Nat) (T : List Nat) : (pv six at0 T).size = 42 := by
  unfold pv; split
  · rename_i h
    have := fhd_yes six T h
    exact vcells_size _ _ _ _ _ _ (kcells_size _ _ _ _ _ this.sA this.sB)
  · exact v0_size
theorem vw_all (zs : List Nat) : (vw zs).all (·.oneCell') = true := by
  unfold vw keyF; split
  · exact vcells_all _ _ _ _ _ _ (kcells_all _ _ _ _ _ (fA_all _ _) (fB_all _ _))
  · exact v0_all
theorem rr_yes (zs : List Nat) (h : rr zs = 0) : (net zs).2.2 = 0 ∧ fhr (sixF zs) (pkt zs) = 0 ∧ fs (fP (sixF zs) (pkt zs)) (sgm zs) = 0 := by
  unfold rr at h
  split at h
  · rename_i h1; exact absurd h h1
  · rename_i h1
    split at h
    · rename_i h2; exact absurd h h2
    · rename_i h2; exact ⟨Decidable.not_not.1 h1, Decidable.not_not.1 h2, h⟩
theorem vw_size (zs : List Nat) : (vw zs).size = 42 := by
  unfold vw keyF; split
  · rename_i h
    have := fhd_yes _ _ (rr_yes zs h).2.1
    exact vcells_size _ _ _ _ _ _ (kcells_size _ _ _ _ _ this.sA this.sB)
  · exact v0_size
def sgT (six : Bool) (at0 : Nat) (zs : List Nat) : List Nat := (zs.drop (at0 + fS six (zs.drop at0))).take (fL six (zs.drop at0) - fS six (zs.drop at0))
def sv (six : Bool) (at0 : Nat) (zs : List Nat) : Array Value :=
  if fs (fP six (zs.drop at0)) (sgT six at0 zs) = 0 then vcells six at0 (at0 + fS six (zs.drop at0)) (at0 + fL six (zs.drop at0)) (kcells (fP six (zs.drop at0)) (fA six (zs.drop at0)) (fB six (zs.drop at0)) (u2 (sgT six at0 zs) 0) (u2 (sgT six at0 zs) 2)) (fl (fP six (zs.drop at0)) (sgT six at0 zs))
  else v0
theorem sv_eq (zs : List Nat) (h : (net zs).2.2 = 0) (h2 : fhr (sixF zs) (pkt zs) = 0) : rr zs = fs (fP (sixF zs) (pkt zs)) (sgT (sixF zs) (net zs).1 zs) ∧ vw zs = sv (sixF zs) (net zs).1 zs := by
  have e : rr zs = fs (fP (sixF zs) (pkt zs)) (sgm zs) := by unfold rr; rw [if_neg (fun x => x h), if_neg (fun x => x h2)]
  refine ⟨e, ?_⟩
  unfold vw; rw [e]; rfl
theorem rr_net (zs : List Nat) (h : (net zs).2.2 ≠ 0) : rr zs = (net zs).2.2 ∧ vw zs = v0 := by
  have e : rr zs = (net zs).2.2 := by unfold rr; rw [if_pos h]
  exact ⟨e, by unfold vw; rw [e, if_neg h]⟩
theorem rr_pkt (zs : List Nat) (h : (net zs).2.2 = 0) (h2 : fhr (sixF zs) (pkt zs) ≠ 0) : rr zs = fhr (sixF zs) (pkt zs) ∧ vw zs = v0 := by
  have e : rr zs = fhr (sixF zs) (pkt zs) := by unfold rr; rw [if_neg (fun x => x h), if_pos h2]
  exact ⟨e, by unfold vw; rw [e, if_neg h2]⟩
theorem sv_all (six : Bool) (at0 : Nat) (zs : List Nat) : (sv six at0 zs).all (·.oneCell') = true := by
  unfold sv; split
  · exact vcells_all _ _ _ _ _ _ (kcells_all _ _ _ _ _ (fA_all _ _) (fB_all _ _))
  · exact v0_all
theorem sv_size (six : Bool) (at0 : Nat) (zs : List Nat) (h : fhr six (zs.drop at0) = 0) : (sv six at0 zs).size = 42 := by
  unfold sv; split
  · have := fhd_yes six _ h
    exact vcells_size _ _ _ _ _ _ (kcells_size _ _ _ _ _ this.sA this.sB)
  · exact v0_size
end Go.Proofs.Ythionipmohbnhaa
