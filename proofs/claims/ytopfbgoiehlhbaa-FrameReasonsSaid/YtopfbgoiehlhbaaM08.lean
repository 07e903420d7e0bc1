/- Texts that the walks of this seat lean on, put together: each has its own remark below. -/
import Derived.LoopTactic
import Derived.Lib.QuietBelow
import Derived.WalkKit
import Derived.WalkSpells
import Derived.WalkLawsBesides
import Derived.Lib.Hide
import Derived.Handy
import Derived.BigQuiet
import Derived.Deep.QuietTactic
import Derived.Test.YtopfbgoiehlhbaaM01
import Derived.Test.YtopfbgoiehlhbaaM02
import Derived.Test.YtopfbgoiehlhbaaM03
import Derived.Test.YtopfbgoiehlhbaaM06
import Derived.Test.YtopfbgoiehlhbaaM07
import Derived.Test.YtopfbgoiehlhbaaProg

/- ipfour.Make. -/
namespace Go.Proofs.Ytopfbgoiehlhbaa
open Go.RowKit

theorem own_in {w : World} {base n g cap : Nat} {e : TypeId} {xs : List Value} (h : w.ownsRow base e 1 (.slice (some ⟨g, 0, none⟩) n cap) n xs) : g < w.heap.size := by
  rcases h.2 with ⟨h1, -⟩ | ⟨g', c', cur, hv, -, h2, -⟩
  · cases h1
  · cases hv
    exact (Array.getElem?_eq_some_iff.1 h2).1
/-- A header of twenty bytes, its checksum 0. -/
def mk0 (s d : List Nat) (p n : Nat) : List Nat := [69, 0] ++ bg 2 (20 + n) ++ [0, 0, 64, 0, 64, p, 0, 0] ++ s ++ d
/-- With its checksum. -/
def mk4 (s d : List Nat) (p n : Nat) : List Nat := ov (mk0 s d p n) (bg 2 (ck (mk0 s d p n))) 10
/-- Whether a header is made. -/
def mk4Ok (six1 six2 : Bool) (n : Int) : Prop := six1 = false ∧ six2 = false ∧ 0 ≤ n ∧ n ≤ 65515
theorem mk0_steps (s d : List Nat) (hs : s.length = 4) (hd : d.length = 4) (p n : Nat) :
    ov (ov (((putRow (putRow ((List.replicate 20 0).set 0 69) 2 2 (20 + n) 2) 6 2 16384 2).set 8 64).set 9 p) s 12) d 16 = mk0 s d p n := by
  obtain ⟨s0, s1, s2, s3, rfl⟩ : ∃ s0 s1 s2 s3, s = [s0, s1, s2, s3] := by
    match s, hs with
    | [a, b, c, d], _ => exact ⟨a, b, c, d, rfl⟩
  obtain ⟨d0, d1, d2, d3, rfl⟩ : ∃ d0 d1 d2 d3, d = [d0, d1, d2, d3] := by
    match d, hd with
    | [a, b, c, d], _ => exact ⟨a, b, c, d, rfl⟩
  rfl
theorem mk0_length (s d : List Nat) (hs : s.length = 4) (hd : d.length = 4) (p n : Nat) : (mk0 s d p n).length = 20 := by simp [mk0, bg_length, hs, hd]
theorem mk0_lt (s d : List Nat) (p n : Nat) (hs : ∀ c ∈ s, c < 256) (hd : ∀ c ∈ d, c < 256) (hp : p < 256) : ∀ c ∈ mk0 s d p n, c < 256 := by
  intro c hc
  unfold mk0 at hc
  simp only [List.mem_append] at hc
  rcases hc with (((h | h) | h) | h) | h
  · simp at h; omega
  · exact bg_lt 2 _ c h
  · simp at h; omega
  · exact hs c h
  · exact hd c h
end Go.Proofs.Ytopfbgoiehlhbaa

/- bazaarref1.put16 into a row of the call's own. -/
namespace Go.Proofs.Ytopfbgoiehlhbaa
open Go.RowKit
theorem hi_i64 (v : Nat) (h : v < 65536) : IntKind.u8.wrap ((v : Int) / 256) = ((v / 256 : Nat) : Int) := by rw [IntKind.wrap_u8]; omega
theorem lo_i64 (v : Nat) : IntKind.u8.wrap (v : Int) = ((v % 256 : Nat) : Int) := by rw [IntKind.wrap_u8]; omega

set_option maxHeartbeats 800000 in
theorem rput16_any (g n cap base k v : Nat) (zs : List Nat) (w : World) (hown : w.ownsRow base 5 1 (.slice (some ⟨g, 0, none⟩) n cap) n (nus .u8 zs)) (hn : n ≤ maxLen) (hk : k + 2 ≤ n) (hv : v < 65536) :
    Calls Try.prog 31 #[.slice (some ⟨g, 0, none⟩) n cap, .int .i64 (k : Int), .int .i64 (v : Int)] w fun e w' => e = .returned (.tuple #[]) ∧ w'.ownsRow base 5 1 (.slice (some ⟨g, 0, none⟩) n cap) n (nus .u8 ((zs.set k (v / 256)).set (k + 1) (v % 256))) ∧ w.grownBy w' (some g) := by
  have hzl : zs.length = n := by have := hown.1; simpa [nus_length] using this
  unfold maxLen at hn
  have hcell := hown.cellAt k (by omega)
  have hcel2 := hown.cellAt (k + 1) (by omega)
  rw [nus_get _ _ _ (by omega)] at hcell hcel2
  have hfz := hown.frozenAt k
  have hfz2 := hown.frozenAt (k + 1)
  have e1 := hi_i64 v hv
  have e2 := lo_i64 v
  have hst := hown.stored k (.int .u8 ((v / 256 : Nat) : Int))
  rw [nus_set] at hst
  have hst2 := hst.1.stored (k + 1) (.int .u8 ((v % 256 : Nat) : Int))
  rw [nus_set] at hst2
  have HS := Lib.hid hst
  have HS2 := Lib.hid hst2
  clear hown hst hst2
  go_enter Try.func31, Try.ntmps31
  go_wp2
  refine bodyPost_end (results_none rfl _ _ _) rfl ?_
  exact ⟨rfl, HS2.out.1, grownBy_trans HS.out.2 HS2.out.2⟩
end Go.Proofs.Ytopfbgoiehlhbaa

/- bazaarref1.FourMake. -/
namespace Go.Proofs.Ytopfbgoiehlhbaa
open Go.RowKit

/-- The header, so many bytes of each address written. -/
def rowj (P S D : List Nat) (j : Nat) : List Nat := (List.range 20).map fun i => if 12 ≤ i ∧ i < 12 + j then S.getD (i - 12) 0 else if 16 ≤ i ∧ i < 16 + j then D.getD (i - 16) 0 else P.getD i 0
theorem rowj_length (P S D : List Nat) (j : Nat) : (rowj P S D j).length = 20 := by simp [rowj]
theorem rowj_get (P S D : List Nat) (j i : Nat) (h : i < 20) : (rowj P S D j).getD i 0 = if 12 ≤ i ∧ i < 12 + j then S.getD (i - 12) 0 else if 16 ≤ i ∧ i < 16 + j then D.getD (i - 16) 0 else P.getD i 0 := by
  simp [rowj, List.getD_eq_getElem?_getD, h]
theorem rowj_zero (P S D : List Nat) (h : P.length = 20) : rowj P S D 0 = P := by
  refine ext_getD _ _ 0 (by rw [rowj_length, h]) fun i hi => ?_
  rw [rowj_length] at hi
  rw [rowj_get P S D 0 i hi, if_neg (by omega), if_neg (by omega)]
theorem set_get (l : List Nat) (k i v : Nat) (h : i < l.length) : (l.set k v).getD i 0 = if k = i then v else l.getD i 0 := by
  simp only [List.getD_eq_getElem?_getD, List.getElem?_set]
  by_cases e : k = i
  · subst e
    rw [if_pos rfl, if_pos rfl, if_pos h]; rfl
  · rw [if_neg e, if_neg e]
theorem rowj_step (P S D : List Nat) (j : Nat) (h : j < 4) : ((rowj P S D j).set (12 + j) (S.getD j 0)).set (16 + j) (D.getD j 0) = rowj P S D (j + 1) := by
  refine ext_getD _ _ 0 (by simp [rowj_length]) fun i hi => ?_
  have hi : i < 20 := by simpa [rowj_length] using hi
  rw [set_get _ _ _ _ (by simp [rowj_length]; exact hi), set_get _ _ _ _ (by simp [rowj_length]; exact hi), rowj_get P S D j i hi, rowj_get P S D (j + 1) i hi]
  repeat' split
  all_goals first
    | rfl
    | (exfalso; omega)
    | (congr 1; omega)
theorem take4 (l : List Nat) (h : l.length = 16) : ∃ a b c d, l.take 4 = [a, b, c, d] ∧ l.getD 0 0 = a ∧ l.getD 1 0 = b ∧ l.getD 2 0 = c ∧ l.getD 3 0 = d := by
  obtain ⟨b0, b1, b2, b3, b4, b5, b6, b7, b8, b9, b10, b11, b12, b13, b14, b15, rfl⟩ := list16 l h
  exact ⟨b0, b1, b2, b3, rfl, rfl, rfl, rfl, rfl⟩
theorem rowj_all (sb db : List Nat) (p n : Nat) (h1 : sb.length = 16) (h2 : db.length = 16) (hn : n ≤ 65515) :
    rowj ((((((List.replicate 20 0).set 0 69).set 2 ((20 + n) / 256)).set (2 + 1) ((20 + n) % 256)).set 6 64).set 8 64 |>.set 9 p) sb db 4 = mk0 (sb.take 4) (db.take 4) p n := by
  obtain ⟨s0, s1, s2, s3, e1, a0, a1, a2, a3⟩ := take4 sb h1
  obtain ⟨d0, d1, d2, d3, e2, b0, b1, b2, b3⟩ := take4 db h2
  have e : (20 + n) / 256 % 256 = (20 + n) / 256 := by omega
  rw [e1, e2]
  unfold rowj
  simp [List.range_succ, mk0, bg, e, ← a0, ← a1, ← a2, ← a3, ← b0, ← b1, ← b2, ← b3]

set_option maxHeartbeats 1000000 in
theorem r4make_no (six1 six2 : Bool) (sb db : List Nat) (p : Int) (n : Int) (w : World) (h : ¬ mk4Ok six1 six2 n) :
    Calls Try.prog 36 #[adr six1 sb, adr six2 db, .int .u8 p, .int .i64 n] w fun e w' => e = .returned (.tuple #[.slice none 0 0, .bool false]) ∧ Below w.heap.size w w' := by
  unfold adr
  have e1 : (cellsA six1 sb)[0]? = some (.bool six1) := cellsA_head _ _
  have e2 : (cellsA six2 db)[0]? = some (.bool six2) := cellsA_head _ _
  generalize cellsA six1 sb = c1 at *
  generalize cellsA six2 db = c2 at *
  have B1 := (Below.refl w.heap.size w).alloc (Nat.le_refl _) (.cells c1 26)
  have HB := Lib.hid (B1.alloc B1.size (.cells c2 26))
  have hc1 := (((Blk.new w 26 c1).alloc (.cells c2 26)).cell 0).trans e1
  have hc2 := ((Blk.new (w.alloc (.cells c1 26)) 26 c2).cell 0).trans e2
  rw [World.size_alloc] at hc2
  unfold mk4Ok at h
  clear e1 e2 B1
  go_enter Try.func36, Try.ntmps36
  cases six1 with
  | true =>
    clear h
    go_wp2
    go_ret2
    exact ⟨rfl, HB.out⟩
  | false =>
    cases six2 with
    | true =>
      clear h
      go_wp2
      go_ret2
      exact ⟨rfl, HB.out⟩
    | false =>
      by_cases h0 : n < 0
      · clear h
        go_wp2
        go_ret2
        exact ⟨rfl, HB.out⟩
      · have h5 : 65515 < n := by
          rcases Int.lt_or_le 65515 n with h' | h'
          · exact h'
          · exact absurd ⟨rfl, rfl, by omega, h'⟩ h
        clear h
        go_wp2
        go_ret2
        exact ⟨rfl, HB.out⟩

set_option maxRecDepth 100000 in
set_option maxHeartbeats 4000000 in
theorem r4make_yes (sb db : List Nat) (p n : Nat) (w : World) (hl1 : sb.length = 16) (hl2 : db.length = 16) (hb1 : ∀ c ∈ sb, c < 256) (hb2 : ∀ c ∈ db, c < 256) (hp : p < 256) (hn : n ≤ 65515) :
    Calls Try.prog 36 #[adr false sb, adr false db, .int .u8 (p : Int), .int .i64 (n : Int)] w fun e w' => ∃ x, e = .returned (.tuple #[x, .bool true]) ∧ w'.ownsRow w.heap.size 5 1 x 20 (nus .u8 (mk4 (sb.take 4) (db.take 4) p n)) ∧ Below w.heap.size w w' := by
  have l1 : (sb.take 4).length = 4 := by simp [hl1]
  have l2 : (db.take 4).length = 4 := by simp [hl2]
  unfold adr
  have e1 : (cellsA false sb)[0]? = some (.bool false) := cellsA_head _ _
  have e2 : (cellsA false db)[0]? = some (.bool false) := cellsA_head _ _
  have G1 := Lib.hid (fun k (hk : k < 4) => cellsA_get false sb k (by omega))
  have G2 := Lib.hid (fun k (hk : k < 4) => cellsA_get false db k (by omega))
  have HM := Lib.hid (rowj_all sb db p n hl1 hl2 hn)
  have HML := Lib.hid (mk0_length (sb.take 4) (db.take 4) l1 l2 p n)
  have HMB := Lib.hid (mk0_lt (sb.take 4) (db.take 4) p n (fun c hc => hb1 c (List.mem_of_mem_take hc)) (fun c hc => hb2 c (List.mem_of_mem_take hc)) hp)
  have hck := ck_le (mk0 (sb.take 4) (db.take 4) p n)
  have hmd : ∀ M : List Nat, M.length = 20 → ck M < 65536 → (M.set 10 (ck M / 256)).set (10 + 1) (ck M % 256) = ov M (bg 2 (ck M)) 10 := fun M hM hc => by
    refine ext_getD _ _ 0 (by simp [ov_length, bg_length, hM]) fun i hi => ?_
    have hi : i < 20 := by simpa [hM] using hi
    rw [set_get _ _ _ _ (by simp [hM]; exact hi), set_get _ _ _ _ (by rw [hM]; exact hi), ov_get _ _ _ _ (by rw [bg_length, hM]; omega), bg_length]
    have e : ck M / 256 % 256 = ck M / 256 := by omega
    by_cases h1 : i = 10
    · subst h1; simp [bg, e]
    · by_cases h2 : i = 11
      · subst h2; simp [bg]
      · rw [if_neg (by omega), if_neg (by omega), if_neg (by omega)]
  have HR : Hid (mk4 (sb.take 4) (db.take 4) p n = ((mk0 (sb.take 4) (db.take 4) p n).set 10 (ck (mk0 (sb.take 4) (db.take 4) p n) / 256)).set (10 + 1) (ck (mk0 (sb.take 4) (db.take 4) p n) % 256)) := by
    show _ = _
    rw [hmd _ HML.out (by omega)]; rfl
  have HD1 := Lib.hid (getD_lt sb hb1)
  have HD2 := Lib.hid (getD_lt db hb2)
  generalize mk4 (sb.take 4) (db.take 4) p n = RES at *
  generalize mk0 (sb.take 4) (db.take 4) p n = M at *
  generalize cellsA false sb = c1 at *
  generalize cellsA false db = c2 at *
  have B1 := (Below.refl w.heap.size w).alloc (Nat.le_refl _) (.cells c1 26)
  have KA := B1.alloc B1.size (.cells c2 26)
  have n1 := (Blk.new w 26 c1).alloc (.cells c2 26)
  have n2 := Blk.new (w.alloc (.cells c1 26)) 26 c2
  rw [World.size_alloc] at n2
  have hc1 := (n1.cell 0).trans e1
  have hc2 := (n2.cell 0).trans e2
  have N1 := Lib.hid n1
  have N2 := Lib.hid n2
  have K0 := Lib.hid KA
  have hbase := K0.out.size
  obtain ⟨i0, hi, hz0, hz1, hz2⟩ := info_parts Try.info5
  have hnw : (20 + (n : Int)) = ((20 + n : Nat) : Int) := by omega
  clear e1 e2 l1 l2 hl1 hl2 hb1 hb2 B1 KA n1 n2 hmd hnw
  go_enter Try.func36, Try.ntmps36
  go_wp2_with (at_make; refine wpList_make_full _ rfl _ _ 22 rfl w.heap.size 5 i0 (.int .u8 0) 1 Try.underlying22 hi hz0 hz1 .i64 .i64 _ _ 20 rfl rfl ?c1 ?c2 ?c3 ?c4 hbase ?_)
  case c1 => omega
  case c2 => omega
  case c3 => rw [hz2]; omega
  case c4 => unfold maxLen; omega
  intro w1 o1 g1
  rw [toList_madeCells_one] at o1
  have O1 := Lib.hid (show w1.ownsRow w.heap.size 5 1 _ 20 (nus .u8 (List.replicate 20 0)) from o1)
  have K1 := Lib.hid (K0.out.grown g1 hbase (fun k hk => by cases hk))
  obtain ⟨g, hg⟩ : ∃ g, g = w.heap.size + 1 + 1 := ⟨_, rfl⟩
  rw [← hg] at O1 ⊢
  have hgl : w.heap.size ≤ g := by omega
  have hg1 : w.heap.size < g := by omega
  have hg2 : w.heap.size + 1 < g := by omega
  have N1 := Lib.hid (show Blk w1 w.heap.size 26 c1 from (g1.block _ N1.out.lt (by simp)).trans N1.out)
  have N2 := Lib.hid (show Blk w1 (w.heap.size + 1) 26 c2 from (g1.block _ N2.out.lt (by simp)).trans N2.out)
  have hgw : g ≤ w1.heap.size := Nat.le_of_lt (own_in O1.out)
  clear o1 g1 hi hz0 hz1 hz2 hg hc1 hc2
  have h20m : 20 ≤ maxLen := by simp [maxLen]
  have c0 := O1.out.cellAt 0 (by omega)
  rw [nus_get _ _ _ (by simp)] at c0
  have f0 := O1.out.frozenAt 0
  have hst := O1.out.stored 0 (.int .u8 ((69 : Nat) : Int))
  rw [nus_set] at hst
  have HST := Lib.hid (show (w1.setCell ⟨g, 0, none⟩ (.int .u8 69)).ownsRow w.heap.size 5 1 (.slice (some ⟨g, 0, none⟩) 20 20) 20 (nus .u8 ((List.replicate 20 0).set 0 69)) ∧ w1.grownBy (w1.setCell ⟨g, 0, none⟩ (.int .u8 69)) (some g) from hst)
  clear hst
  go_wp2_with fail
  have O2 := Lib.hid HST.out.1
  have K2 := Lib.hid ((Below.refl g w1).grown HST.out.2 hgw (fun k e => by cases e; exact Nat.le_refl _))
  generalize w1.setCell ⟨g, 0, none⟩ (.int .u8 69) = w2 at O2 K2 ⊢
  clear HST c0 f0 O1
  refine (rput16_any g 20 20 w.heap.size 2 (20 + n) _ w2 O2.out h20m (by omega) (by omega)).mono ?_
  rintro e w3 ⟨rfl, o3, g3⟩
  have O3 := Lib.hid o3
  have K3 := Lib.hid (K2.out.grown g3 (Nat.le_trans hgw K2.out.size) (fun k e => by cases e; exact Nat.le_refl _))
  clear o3 g3 O2 K2
  obtain ⟨Z, hZ⟩ : ∃ Z, Z = (((List.replicate 20 0).set 0 69).set 2 ((20 + n) / 256)).set (2 + 1) ((20 + n) % 256) := ⟨_, rfl⟩
  have HZL : Hid (Z.length = 20) := by
    show _ = _
    rw [hZ]; simp
  rw [← hZ] at O3 HM
  clear hZ
  have c6 := O3.out.cellAt 6 (by omega)
  have c8 := O3.out.cellAt 8 (by omega)
  have c9 := O3.out.cellAt 9 (by omega)
  rw [nus_get _ _ _ (by rw [HZL.out]; omega)] at c6 c8 c9
  have f6 := O3.out.frozenAt 6
  have f8 := O3.out.frozenAt 8
  have f9 := O3.out.frozenAt 9
  have h6 := O3.out.stored 6 (.int .u8 ((64 : Nat) : Int))
  rw [nus_set] at h6
  have h8 := h6.1.stored 8 (.int .u8 ((64 : Nat) : Int))
  rw [nus_set] at h8
  have h9 := h8.1.stored 9 (.int .u8 (p : Int))
  rw [nus_set] at h9
  have k6 := K3.out.grown h6.2 (Nat.le_trans hgw K3.out.size) (fun k e => by cases e; exact Nat.le_refl _)
  have k8 := k6.grown h8.2 (Nat.le_trans hgw k6.size) (fun k e => by cases e; exact Nat.le_refl _)
  have k9 := k8.grown h9.2 (Nat.le_trans hgw k8.size) (fun k e => by cases e; exact Nat.le_refl _)
  have H9 := Lib.hid (show (((w3.setCell ⟨g, 6, none⟩ (.int .u8 64)).setCell ⟨g, 8, none⟩ (.int .u8 64)).setCell ⟨g, 9, none⟩ (.int .u8 (p : Int))).ownsRow w.heap.size 5 1 (.slice (some ⟨g, 0, none⟩) 20 20) 20 (nus .u8 (((Z.set 6 64).set 8 64).set 9 p)) from h9.1)
  have K9 := Lib.hid (show Below g w1 (((w3.setCell ⟨g, 6, none⟩ (.int .u8 64)).setCell ⟨g, 8, none⟩ (.int .u8 64)).setCell ⟨g, 9, none⟩ (.int .u8 (p : Int))) from k9)
  clear h6 h8 h9 k6 k8 k9
  generalize Z.getD 6 0 = y6 at c6
  generalize Z.getD 8 0 = y8 at c8
  generalize Z.getD 9 0 = y9 at c9
  have hpl : (((Z.set 6 64).set 8 64).set 9 p).length = 20 := by simp [HZL.out]
  obtain ⟨P, hP⟩ : ∃ P, P = ((Z.set 6 64).set 8 64).set 9 p := ⟨_, rfl⟩
  rw [← hP] at H9 HM hpl
  have HPL := Lib.hid hpl
  clear hP hpl
  go_wp2
  go_loopw [11] (fun i wr => ∃ k : Nat, k ≤ 4 ∧ i = .int .i64 (k : Int) ∧ Hid (wr.ownsRow w.heap.size 5 1 (.slice (some ⟨g, 0, none⟩) 20 20) 20 (nus .u8 (rowj P sb db k))) ∧ Hid (Below g w1 wr)) (fun i _ => 4 - (RowKit.intOf i).toNat)
  case atStart => exact ⟨0, by omega, rfl, by show World.ownsRow _ _ _ _ _ _ _; rw [rowj_zero P sb db HPL.out]; exact H9.out, K9⟩
  case round =>
    obtain ⟨k, hk4, rfl, hO, hK⟩ := hrel
    clear c6 c8 c9 f6 f8 f9 H9 K9 O3 K3
    by_cases hlt : k < 4
    · have s1 := ((N1.out.below hK.out hg1).cell (1 + k)).trans (G1.out k hlt)
      have s2 := ((N2.out.below hK.out hg2).cell (1 + k)).trans (G2.out k hlt)
      have t1 := hO.out.cellAt (12 + k) (by omega)
      have t2 := hO.out.cellAt (16 + k) (by omega)
      rw [nus_get _ _ _ (by rw [rowj_length]; omega)] at t1 t2
      have f1 := hO.out.frozenAt (12 + k)
      have f2 := hO.out.frozenAt (16 + k)
      have q1 := hO.out.stored (12 + k) (.int .u8 ((sb.getD k 0 : Nat) : Int))
      rw [nus_set] at q1
      have q2 := q1.1.stored (16 + k) (.int .u8 ((db.getD k 0 : Nat) : Int))
      rw [nus_set, rowj_step P sb db k hlt] at q2
      have k1 := hK.out.grown q1.2 (Nat.le_trans hgw hK.out.size) (fun k e => by cases e; exact Nat.le_refl _)
      have k2 := k1.grown q2.2 (Nat.le_trans hgw k1.size) (fun k e => by cases e; exact Nat.le_refl _)
      have Q := Lib.hid q2.1
      have KK := Lib.hid k2
      generalize (rowj P sb db k).getD (12 + k) 0 = y1 at t1
      generalize (rowj P sb db k).getD (16 + k) 0 = y2 at t2
      clear q1 q2 k1 k2
      generalize sb.getD k 0 = x1 at *
      generalize db.getD k 0 = x2 at *
      have a1 : IntKind.i64.wrap (12 + (k : Int)) = 12 + (k : Int) := by rw [IntKind.wrap_i64]; omega
      have a2 : IntKind.i64.wrap (16 + (k : Int)) = 16 + (k : Int) := by rw [IntKind.wrap_i64]; omega
      have b1 : (0 : Int) ≤ 12 + (k : Int) ∧ 12 + (k : Int) < 20 := by omega
      have b2 : (0 : Int) ≤ 16 + (k : Int) ∧ 16 + (k : Int) < 20 := by omega
      have d1 : ((12 : Int) + (k : Int)).toNat = 12 + k := by omega
      have d2 : ((16 : Int) + (k : Int)).toNat = 16 + k := by omega
      go_wp2
      go_roundw
      case rel => exact ⟨k + 1, by omega, by go_num, Q, KK⟩
      case measure => simp [RowKit.intOf]; omega
    · obtain rfl : k = 4 := by omega
      have O4 := Lib.hid (show wr.ownsRow w.heap.size 5 1 (.slice (some ⟨g, 0, none⟩) 20 20) 20 (nus .u8 M) from by rw [← HM.out]; exact hO.out)
      have K4 := hK
      clear hO hK hlt
      go_wp2_with fail
      refine (rcheck_any _ M _ (Rd.own O4.out) (by rw [HML.out]; omega) HMB.out).mono ?_
      rintro e w9 ⟨rfl, rfl⟩
      go_wp2_with fail
      refine (rput16_any g 20 20 w.heap.size 10 (ck M) M _ O4.out h20m (by omega) (by omega)).mono ?_
      rintro e w10 ⟨rfl, o10, g10⟩
      rw [← HR.out] at o10
      have O10 := Lib.hid o10
      have K10 := Lib.hid (K4.out.grown g10 (Nat.le_trans hgw K4.out.size) (fun k e => by cases e; exact Nat.le_refl _))
      clear o10 g10 O4 K4
      go_wp2
      go_ret2
      exact ⟨_, rfl, O10.out, K1.out.trans (K10.out.mono hgl)⟩
end Go.Proofs.Ytopfbgoiehlhbaa

/- Segments to another port and address, in plain numbers. Nothing of the program. -/
namespace Go.Proofs.Ytopfbgoiehlhbaa
open Go.RowKit

theorem set_ov (zs : List Nat) (k v : Nat) (h : k + 2 ≤ zs.length) (hv : v < 65536) : (zs.set k (v / 256)).set (k + 1) (v % 256) = ov zs (bg 2 v) k := by
  have hl : (bg 2 v).length = 2 := bg_length 2 v
  refine ext_getD _ _ 0 (by rw [ov_length _ _ _ (by omega)]; simp) fun i hi => ?_
  have hi2 : i < zs.length := by simpa using hi
  rw [set_get _ _ _ _ (by simpa using hi2), set_get _ _ _ _ hi2, ov_get _ _ _ _ (by omega), hl]
  have hb : bg 2 v = [v / 256 % 256, v % 256] := by simp [bg]
  rw [hb]
  by_cases h1 : k + 1 = i
  · subst h1
    rw [if_pos rfl, if_pos (by omega), show k + 1 - k = 1 by omega]; rfl
  · rw [if_neg h1]
    by_cases h2 : k = i
    · subst h2
      rw [if_pos rfl, if_pos (by omega), Nat.sub_self]
      show v / 256 = v / 256 % 256
      omega
    · rw [if_neg h2, if_neg (by omega)]

theorem bytesA_lt (v : Bool) (bs : List Nat) (h : ∀ c ∈ bs, c < 256) : ∀ c ∈ bytesA v bs, c < 256 := by
  unfold bytesA; split
  · exact h
  · exact fun c hc => h c (List.mem_of_mem_take hc)
theorem bytesA_len (v : Bool) (bs : List Nat) (h : bs.length = 16) : (bytesA v bs).length = if v then 16 else 4 := by
  unfold bytesA; split
  · exact h
  · simp [h]
/-- The checksum behind another port and address, ahead of what UDP does with 0. -/
def pc1 (p : Nat) (zs : List Nat) (tp : Nat) (v : Bool) (F D : List Nat) : Nat :=
  chA (chA (u2 zs (sAt p)) ((zs.drop 2).take 2) (bg 2 tp)) (bytesA v F) (bytesA v D)
def pc (p : Nat) (zs : List Nat) (tp : Nat) (v : Bool) (F D : List Nat) : Nat := if p = 17 ∧ pc1 p zs tp v F D = 0 then 65535 else pc1 p zs tp v F D
/-- The segment to another port and address. -/
def prt (p : Nat) (zs : List Nat) (tp : Nat) (v : Bool) (F D : List Nat) : List Nat :=
  if wo p zs then ov zs (bg 2 tp) 2 else ov (ov zs (bg 2 tp) 2) (bg 2 (pc p zs tp v F D)) (sAt p)
def pOut (p : Nat) (zs : List Nat) (tp : Nat) (v1 : Bool) (F : List Nat) (v2 : Bool) (D : List Nat) : List Nat := if fs p zs = 0 ∧ v1 = v2 then prt p zs tp v1 F D else []
theorem two_at (zs : List Nat) (k : Nat) (h : k + 2 ≤ zs.length) : ((zs.drop k).take 2).length = 2 := by simp; omega
theorem ov_two (zs : List Nat) (tp : Nat) (h : 4 ≤ zs.length) : ((ov zs (bg 2 tp) 2).drop 2).take 2 = bg 2 tp := by
  have := ov_mid zs (bg 2 tp) 2 (by rw [bg_length]; omega)
  rwa [bg_length] at this
theorem pc1_lt (p : Nat) (zs : List Nat) (tp : Nat) (v : Bool) (F D : List Nat) (hb : ∀ c ∈ zs, c < 256) : pc1 p zs tp v F D < 65536 := chA_lt _ _ _ (chA_lt _ _ _ (u2_lt _ _ hb))
theorem pc_lt (p : Nat) (zs : List Nat) (tp : Nat) (v : Bool) (F D : List Nat) (hb : ∀ c ∈ zs, c < 256) : pc p zs tp v F D < 65536 := by
  have := pc1_lt p zs tp v F D hb
  unfold pc; split <;> omega
end Go.Proofs.Ytopfbgoiehlhbaa

/- bazaarref1.Bytes. -/
namespace Go.Proofs.Ytopfbgoiehlhbaa
open Go.RowKit

/-- The bytes of an address that lies in a block of its own. -/
theorem rd_adr {w : World} {g : Nat} {t : TypeId} {v : Bool} {bs : List Nat} (h : Blk w g t (cellsA v bs)) (n : Nat) (hn : n ≤ bs.length) (h16 : n ≤ 16) : Rd w (.slice (some ⟨g, 1, none⟩) n 16) (nus .u8 (bs.take n)) := by
  have hl : (nus .u8 (bs.take n)).length = n := by rw [nus_length]; simp; omega
  refine ⟨_, _, by rw [hl], by rw [hl]; exact h16, by simp [maxLen], .inr ⟨g, 1, rfl, h.lt, fun i hi => ?_⟩⟩
  rw [hl] at hi
  rw [h.cell (1 + i), cellsA_get v bs i (by omega), nus_get _ _ _ (by simp; omega)]
  simp [List.getD_eq_getElem?_getD, hi]

set_option maxHeartbeats 1000000 in
theorem rbytes_own (v : Bool) (bs : List Nat) (hl : bs.length = 16) (w : World) :
    Calls Try.prog 32 #[adr v bs] w fun e w' => ∃ z, e = .returned z ∧ w'.ownsRow w.heap.size 5 1 z (bytesA v bs).length (nus .u8 (bytesA v bs)) ∧ Below w.heap.size w w' := by
  unfold adr
  have HN := Lib.hid (Blk.new w 26 (cellsA v bs))
  have B0 := (Below.refl w.heap.size w).alloc (Nat.le_refl _) (.cells (cellsA v bs) 26)
  have hc0 : (w.alloc (.cells (cellsA v bs) 26)).cell? ⟨w.heap.size, 0, none⟩ = some (.bool v) := (HN.out.cell 0).trans (by simp [cellsA])
  have R4 := Lib.hid (rd_adr HN.out 4 (by omega) (by omega))
  have R16 := Lib.hid (rd_adr HN.out 16 (by omega) (by omega))
  have e16 : bs.take 16 = bs := List.take_of_length_le (by omega)
  rw [e16] at R16
  have HL := Lib.hid hl
  generalize cellsA v bs = c at *
  generalize hW : w.alloc (.cells c 26) = W at hc0 R4 R16 B0
  have HW := Lib.hid hW
  have hsz : w.heap.size ≤ W.heap.size := by rw [← hW]; simp
  have o1 := own_low hsz (own_none W 5)
  have b1 := (Below.refl W.heap.size W).alloc (Nat.le_refl _) (.cells #[] 5)
  have K1 := Lib.hid (B0.trans (b1.mono hsz))
  have O1 := Lib.hid o1
  have r4 := Lib.hid (R4.out.below b1)
  have r16 := Lib.hid (R16.out.below b1)
  clear hl hW HN B0 e16 o1 b1 R4 R16
  cases v with
  | false =>
    unfold bytesA
    rw [if_neg (by decide), show (bs.take 4).length = 4 from by rw [List.length_take, HL.out]; rfl]
    go_enter Try.func32, Try.ntmps32
    have hWW := HW.out
    go_wp2_with (at_builtin; refine wpList_app rfl (.tmp 6) (.tmp 9) rfl w.heap.size _ 0 [] rfl O1.out (some _) 4 16 (bs.take 4) rfl r4.out ?c1 ?c2 ?c3 ?c4)
    case c1 => intro e; cases e
    case c2 => omega
    case c3 => exact K1.out.size
    intro v2 w2 o2 g2
    have K2 := Lib.hid (K1.out.grown g2 K1.out.size (fun k e => (O1.out.lt k e).1))
    have O2 := Lib.hid o2
    clear o2 g2
    go_wp2
    go_ret
    exact ⟨_, rfl, O2.out, K2.out⟩
  | true =>
    unfold bytesA
    rw [if_pos rfl, show bs.length = 16 from HL.out]
    go_enter Try.func32, Try.ntmps32
    have hWW := HW.out
    go_wp2_with (at_builtin; refine wpList_app rfl (.tmp 6) (.tmp 9) rfl w.heap.size _ 0 [] rfl O1.out (some _) 16 16 bs rfl r16.out ?d1 ?d2 ?d3 ?d4)
    case d1 => intro e; cases e
    case d2 => omega
    case d3 => exact K1.out.size
    intro v2 w2 o2 g2
    have K2 := Lib.hid (K1.out.grown g2 K1.out.size (fun k e => (O1.out.lt k e).1))
    have O2 := Lib.hid o2
    clear o2 g2
    go_wp2
    go_ret
    exact ⟨_, rfl, O2.out, K2.out⟩
end Go.Proofs.Ytopfbgoiehlhbaa

/- Plain facts on rows of which a part is another one. -/
namespace Go.Proofs.Ytopfbgoiehlhbaa
open Go.RowKit Go.Sort

/-- B, where from place k on so many are T's. -/
def mix (B T : List Nat) (k j : Nat) : List Nat := B.take k ++ (T.take j ++ B.drop (k + j))
theorem mix_length (B T : List Nat) (k j : Nat) (h : k + j ≤ B.length) (hj : j ≤ T.length) : (mix B T k j).length = B.length := by
  simp [mix]; omega
theorem mix_zero (B T : List Nat) (k : Nat) : mix B T k 0 = B := by simp [mix]
theorem mix_step (B T : List Nat) (k j : Nat) (h : k + j < B.length) (hj : j < T.length) : (mix B T k j).set (k + j) (T.getD j 0) = mix B T k (j + 1) := by
  have hk : (B.take k).length = k := by simp; omega
  have ht : (T.take j).length = j := by simp; omega
  unfold mix
  rw [List.set_append_right _ _ (by omega), List.set_append_right _ _ (by omega), hk, ht, show k + j - k - j = 0 from by omega,
    List.drop_eq_getElem_cons h, List.set_cons_zero]
  simp [List.getD_eq_getElem?_getD, List.getElem?_eq_getElem hj, Nat.add_assoc]
  rw [List.take_succ_eq_append_getElem hj, List.append_assoc, List.singleton_append]
theorem mix_full (B T : List Nat) (k : Nat) : mix B T k T.length = B.take k ++ (T ++ B.drop (k + T.length)) := by simp [mix]
theorem mix_lt (B T : List Nat) (k j : Nat) (hB : ∀ c ∈ B, c < 256) (hT : ∀ c ∈ T, c < 256) : ∀ c ∈ mix B T k j, c < 256 := by
  intro c hc
  unfold mix at hc
  rcases List.mem_append.1 hc with h | h
  · exact hB c (List.mem_of_mem_take h)
  · rcases List.mem_append.1 h with h | h
    · exact hT c (List.mem_of_mem_take h)
    · exact hB c (List.mem_of_mem_drop h)
theorem changes_math (B T : List Nat) (k : Nat) (hk : k % 2 = 0) (hm : T.length % 2 = 0) (h : k + T.length ≤ B.length) (hB : ∀ c ∈ B, c < 256) :
    chA (ck B) ((B.drop k).take T.length) T % 65535 = ck (mix B T k T.length) % 65535 := by
  have hFl : ((B.drop k).take T.length).length = T.length := by simp; omega
  have hF : ∀ c ∈ (B.drop k).take T.length, c < 256 := fun c hc => hB c (List.mem_of_mem_drop (List.mem_of_mem_take hc))
  have e : chA (ck B) ((B.drop k).take T.length) T = chg (ck B) ((B.drop k).take T.length) T (T.length / 2) := chA_yes _ _ _ _ (by omega) (by omega)
  have h1 := chg_mod (ck B) ((B.drop k).take T.length) T (ck_le B) hF (T.length / 2) (by omega) (by omega)
  rw [List.take_of_length_le (l := T) (by omega), List.take_of_length_le (l := (B.drop k).take T.length) (by omega)] at h1
  have h2 := ck_mod B
  have h3 := ck_mod (mix B T k T.length)
  rw [mix_full, wsp_append, wsp_append] at h3
  have hk2 : (B.take k).length = k := by simp; omega
  rw [hk2, wsp_eq T (0 + k) 0 (by omega), wsp_eq (B.drop (k + T.length)) (0 + k + T.length) 0 (by omega)] at h3
  have hBs : B = B.take k ++ ((B.drop k).take T.length ++ B.drop (k + T.length)) := by
    rw [← List.drop_drop, List.take_append_drop, List.take_append_drop]
  have h4 : wsp 0 B = wsp 0 (B.take k) + (wsp 0 ((B.drop k).take T.length) + wsp 0 (B.drop (k + T.length))) := by
    conv => lhs; rw [hBs]
    rw [wsp_append, wsp_append, hk2, hFl, wsp_eq ((B.drop k).take T.length) (0 + k) 0 (by omega), wsp_eq (B.drop (k + T.length)) (0 + k + T.length) 0 (by omega)]
  rw [e, mix_full]
  generalize chg (ck B) ((B.drop k).take T.length) T (T.length / 2) = u at *
  generalize ck (B.take k ++ (T ++ B.drop (k + T.length))) = v at *
  omega
end Go.Proofs.Ytopfbgoiehlhbaa

/- The contract of octet.Append at 16 binary digits. -/
namespace Go.Proofs.Ytopfbgoiehlhbaa
open Go.RowKit

set_option maxHeartbeats 400000 in
theorem app16_any (va : Value) (zs : List Nat) (v : Nat) (w : World) (hr : Rd w va (nus .u8 zs)) (hz : zs.length ≤ 140737488351232) (hv : v < 65536) :
    Calls Try.prog 63 #[va, .int .u16 v] w fun e w' => ∃ x, e = .returned x ∧ w'.ownsRow w.heap.size 5 1 x (zs.length + 2) (nus .u8 (zs ++ bg 2 v)) ∧ Below w.heap.size w w' := by
  obtain ⟨i0, hi, hz0, hz1, hz2⟩ := info_parts Try.info5
  obtain ⟨a, cap, rfl, hlc, hl, hx⟩ := hr
  rw [nus_length] at hlc hx ⊢
  obtain ⟨len, hlen⟩ : ∃ len, len = zs.length := ⟨_, rfl⟩
  rw [← hlen] at hlc hx hz ⊢
  have HL := Lib.hid hlen
  have HX := Lib.hid hx
  clear hlen hx
  unfold maxLen at hl
  go_enter Try.func63, Try.ntmps63
  have hbase : w.heap.size ≤ w.heap.size := Nat.le_refl _
  go_wp2_with (first
    | (go_at_call 51; refine (size16_any _).mono ?_; rintro e w' ⟨rfl, rfl⟩)
    | (at_make; refine wpList_make_full _ rfl _ _ 22 rfl w.heap.size 5 i0 (.int .u8 0) 1 Try.underlying22 hi hz0 hz1 .i64 .i64 _ _ (len + 2) rfl rfl ?c1 ?c2 ?c3 ?c4 hbase ?_))
  case c1 => omega
  case c2 => omega
  case c3 => rw [hz2]; omega
  case c4 => unfold maxLen; omega
  intro w1 hown hgr
  have hb1 : Below w.heap.size w w1 := (Below.refl _ _).grown hgr (Nat.le_refl _) (fun k hk => by cases hk)
  obtain ⟨hh, _⟩ := own_heap hown
  have hrd : Rd w1 (.slice a len cap) (nus .u8 zs) := (show Rd w (.slice a len cap) (nus .u8 zs) from ⟨a, cap, by rw [nus_length, HL.out], by rw [nus_length, ← HL.out]; exact hlc, hl, by rw [nus_length, ← HL.out]; exact HX.out⟩).below hb1
  have hsrc := Lib.hid hrd.src
  have HH := Lib.hid hh
  have HB1 := Lib.hid hb1
  clear hh hown hgr hrd hb1
  go_wp2_with (with_reducible refine wpList_copy_splice rfl (.tmp 11) (.tmp 12) 22 22 rfl 5 Try.underlying22 Try.size5 _ _ _ _ _ _ rfl rfl w.heap.size 0 _ 5 HH.out (nus .u8 zs) ?d1 ?d2 ?d3 (oneCell_nus _ _) w.heap.size w HB1.out (Nat.le_refl _) ?_)
  case d1 => rw [nus_length, ← HL.out]; exact (Nat.min_eq_left (by omega)).symm
  case d2 => exact hsrc.out
  case d3 => rw [nus_length, ← HL.out, size_made]; omega
  intro w2 h2 hb2
  have hh2 := h2.out
  rw [splice_made zs 2 _ HL.out] at hh2
  have hown2 := own_of_heap (base := w.heap.size) (n := len + 2) hh2 (Nat.le_refl _) (by rw [nus_length, List.length_append, List.length_replicate, ← HL.out]) (by unfold maxLen; omega)
  have HO := Lib.hid hown2
  have HB2 := Lib.hid hb2
  clear hh2 hown2 h2 hb2 hsrc HH HB1 HX
  go_wp2_with (go_at_call 79; (refine (put16_yes w.heap.size (len + 2) (len + 2) w.heap.size len v _ _ HO.out (by unfold maxLen; omega) (Nat.le_refl _) hv).mono ?_); rintro e w3 ⟨rfl, hown3, hgr3⟩)
  go_ret
  refine ⟨_, rfl, ?_, HB2.out.grown hgr3 HB2.out.size (fun k hk => by cases hk; exact Nat.le_refl _)⟩
  rw [putRow_app zs 2 v len HL.out] at hown3
  exact hown3
end Go.Proofs.Ytopfbgoiehlhbaa

/- The contracts of octet.size, octet.fits and octet.Get at the size of 32 binary digits. -/
namespace Go.Proofs.Ytopfbgoiehlhbaa
open Go.RowKit

set_option maxRecDepth 10000 in
set_option maxHeartbeats 400000 in
theorem len64_32 (w : World) :
    Calls Try.prog 67 #[.int .u64 4294967295] w fun e w' => e = .returned (.int .i64 32) ∧ w = w' := by
  go_enter Try.func67, Try.ntmps67
  go_wp2_with fail
  go_ret
  exact ⟨by kernel_rfl, rfl⟩

set_option maxRecDepth 10000 in
set_option maxHeartbeats 400000 in
theorem size32_any (w : World) :
    Calls Try.prog 77 #[] w fun e w' => e = .returned (.int .i64 4) ∧ w = w' := by
  go_enter Try.func77, Try.ntmps77
  go_wp2_with (go_at_call 67; refine (len64_32 _).mono ?_; rintro e w' ⟨rfl, rfl⟩)
  go_ret
  exact ⟨rfl, rfl⟩

set_option maxHeartbeats 400000 in
theorem fits32_neg (a : Option Addr) (len cap : Nat) (at0 : Int) (w : World) (h0 : at0 < 0) :
    Calls Try.prog 81 #[.slice a len cap, .int .i64 at0] w fun e w' => e = .returned (.bool false) ∧ w = w' := by
  go_enter Try.func81, Try.ntmps81
  go_wp2_with (go_at_call 77; refine (size32_any _).mono ?_; rintro e w' ⟨rfl, rfl⟩)
  go_ret
  exact ⟨rfl, rfl⟩

set_option maxHeartbeats 400000 in
theorem fits32_pos (a : Option Addr) (len cap : Nat) (at0 : Int) (w : World) (hl : len ≤ maxLen) (h0 : 0 ≤ at0) :
    Calls Try.prog 81 #[.slice a len cap, .int .i64 at0] w fun e w' => e = .returned (.bool (decide (at0 ≤ (len : Int) - 4))) ∧ w = w' := by
  unfold maxLen at hl
  go_enter Try.func81, Try.ntmps81
  go_wp2_with (go_at_call 77; refine (size32_any _).mono ?_; rintro e w' ⟨rfl, rfl⟩)
  go_ret
  exact ⟨rfl, rfl⟩
end Go.Proofs.Ytopfbgoiehlhbaa

/- The contract of octet.Put at 32 binary digits, into a row of the call that called it. -/
namespace Go.Proofs.Ytopfbgoiehlhbaa
open Go.RowKit

set_option maxHeartbeats 400000 in
theorem put32_yes (g n cap base : Nat) (k v : Nat) (zs : List Nat) (w : World) (hown : w.ownsRow base 5 1 (.slice (some ⟨g, 0, none⟩) n cap) n (nus .u8 zs)) (hn : n ≤ maxLen) (hk : k + 4 ≤ n) (hv : v < 4294967296) :
    Calls Try.prog 78 #[.slice (some ⟨g, 0, none⟩) n cap, .int .i64 k, .int .u32 v] w fun e w' => e = .returned (.bool true) ∧ w'.ownsRow base 5 1 (.slice (some ⟨g, 0, none⟩) n cap) n (nus .u8 (putRow zs k 4 v 4)) ∧ w.grownBy w' (some g) := by
  have hzl : zs.length = n := by have := hown.1; simpa [nus_length] using this
  unfold maxLen at hn
  have hfit : decide ((k : Int) ≤ (n : Int) - 4) = true := by simp; omega
  have HO := Lib.hid hown
  have HZ := Lib.hid hzl
  clear hown hzl
  go_enter Try.func78, Try.ntmps78
  go_wp2_with (first
    | (go_at_call 81; refine (fits32_pos _ _ _ _ _ (by unfold maxLen; omega) (by omega)).mono ?_; rintro e w' ⟨rfl, rfl⟩; rw [hfit])
    | (go_at_call 77; refine (size32_any _).mono ?_; rintro e w' ⟨rfl, rfl⟩))
  go_loopw [7, 8] (fun r i wr => ∃ j : Nat, j ≤ 4 ∧ r = .int .u64 ((v / 256 ^ j : Nat) : Int) ∧ i = .int .i64 ((k : Int) + 4 - 1 - j) ∧ wr.ownsRow base 5 1 (.slice (some ⟨g, 0, none⟩) n cap) n (nus .u8 (putRow zs k 4 v j)) ∧ w.grownBy wr (some g)) (fun _ i _ => (intOf i + 1 - k).toNat)
  case atStart => exact ⟨0, by omega, by simp, by simp, by rw [putRow_zero]; exact HO.out, World.grownBy.refl _ _⟩
  case round =>
    obtain ⟨j, hj, rfl, rfl, hown, hgr⟩ := hrel
    by_cases h1 : j < 4
    · obtain ⟨r, hr⟩ : ∃ r, r = v / 256 ^ j := ⟨_, rfl⟩
      obtain ⟨p, hp⟩ : ∃ p : Nat, (k : Int) + 4 - 1 - j = p := ⟨k + 4 - 1 - j, by omega⟩
      have hpk : k ≤ p ∧ p < k + 4 := by omega
      have hrv : r < 18446744073709551616 := by have := Nat.div_le_self v (256 ^ j); omega
      have hcell := hown.cellAt p (by omega)
      rw [nus_get _ _ _ (by rw [putRow_length _ _ _ _ _ (by rw [HZ.out]; exact hk) hj, HZ.out]; omega)] at hcell
      have hfz := hown.frozenAt p
      have hst := hown.stored p (.int .u8 ((r % 256 : Nat) : Int))
      have hstep := putRow_step zs k 4 v j (by rw [HZ.out]; exact hk) h1
      rw [← hr, show k + 4 - 1 - j = p from by omega] at hstep
      rw [nus_set, hstep] at hst
      have hr2 : r / 256 = v / 256 ^ (j + 1) := by rw [hr, Nat.div_div_eq_div_mul, Nat.pow_succ]
      rw [← hr, hp]
      obtain ⟨x, hx⟩ : ∃ x, x = (putRow zs k 4 v j).getD p 0 := ⟨_, rfl⟩
      rw [← hx] at hcell
      have HS := Lib.hid hst
      have HP := Lib.hid hp
      have HR := Lib.hid hr2
      clear hown hst hstep hp hr hr2 hx
      go_wp2
      go_roundw
      case rel => exact ⟨j + 1, by omega, by rw [← HR.out]; go_num, by have := HP.out; go_num, HS.out.1, grownBy_trans hgr HS.out.2⟩
      case measure => have := HP.out; simp [intOf]; omega
    · obtain rfl : j = 4 := by omega
      go_wp2
      go_ret
      exact ⟨rfl, hown, hgr⟩
set_option maxHeartbeats 400000 in
theorem put32_no (a : Option Addr) (len cap : Nat) (at0 v : Int) (w : World) (hl : len ≤ maxLen) (h : at0 < 0 ∨ (len : Int) < at0 + 4) :
    Calls Try.prog 78 #[.slice a len cap, .int .i64 at0, .int .u32 v] w fun e w' => e = .returned (.bool false) ∧ w = w' := by
  by_cases h0 : at0 < 0
  · go_enter Try.func78, Try.ntmps78
    go_wp2_with (go_at_call 81; refine (fits32_neg _ _ _ _ _ (by omega)).mono ?_; rintro e w' ⟨rfl, rfl⟩)
    go_ret
    exact ⟨rfl, rfl⟩
  · have hfit : decide (at0 ≤ (len : Int) - 4) = false := by simp; omega
    go_enter Try.func78, Try.ntmps78
    go_wp2_with (go_at_call 81; refine (fits32_pos _ _ _ _ _ hl (by omega)).mono ?_; rintro e w' ⟨rfl, rfl⟩; rw [hfit])
    go_ret
    exact ⟨rfl, rfl⟩
end Go.Proofs.Ytopfbgoiehlhbaa

/- The contract of octet.Append at 32 binary digits. -/
namespace Go.Proofs.Ytopfbgoiehlhbaa
open Go.RowKit

set_option maxHeartbeats 400000 in
theorem app32_any (va : Value) (zs : List Nat) (v : Nat) (w : World) (hr : Rd w va (nus .u8 zs)) (hz : zs.length ≤ 140737488351232) (hv : v < 4294967296) :
    Calls Try.prog 62 #[va, .int .u32 v] w fun e w' => ∃ x, e = .returned x ∧ w'.ownsRow w.heap.size 5 1 x (zs.length + 4) (nus .u8 (zs ++ bg 4 v)) ∧ Below w.heap.size w w' := by
  obtain ⟨i0, hi, hz0, hz1, hz2⟩ := info_parts Try.info5
  obtain ⟨a, cap, rfl, hlc, hl, hx⟩ := hr
  rw [nus_length] at hlc hx ⊢
  obtain ⟨len, hlen⟩ : ∃ len, len = zs.length := ⟨_, rfl⟩
  rw [← hlen] at hlc hx hz ⊢
  have HL := Lib.hid hlen
  have HX := Lib.hid hx
  clear hlen hx
  unfold maxLen at hl
  go_enter Try.func62, Try.ntmps62
  have hbase : w.heap.size ≤ w.heap.size := Nat.le_refl _
  go_wp2_with (first
    | (go_at_call 77; refine (size32_any _).mono ?_; rintro e w' ⟨rfl, rfl⟩)
    | (at_make; refine wpList_make_full _ rfl _ _ 22 rfl w.heap.size 5 i0 (.int .u8 0) 1 Try.underlying22 hi hz0 hz1 .i64 .i64 _ _ (len + 4) rfl rfl ?c1 ?c2 ?c3 ?c4 hbase ?_))
  case c1 => omega
  case c2 => omega
  case c3 => rw [hz2]; omega
  case c4 => unfold maxLen; omega
  intro w1 hown hgr
  have hb1 : Below w.heap.size w w1 := (Below.refl _ _).grown hgr (Nat.le_refl _) (fun k hk => by cases hk)
  obtain ⟨hh, _⟩ := own_heap hown
  have hrd : Rd w1 (.slice a len cap) (nus .u8 zs) := (show Rd w (.slice a len cap) (nus .u8 zs) from ⟨a, cap, by rw [nus_length, HL.out], by rw [nus_length, ← HL.out]; exact hlc, hl, by rw [nus_length, ← HL.out]; exact HX.out⟩).below hb1
  have hsrc := Lib.hid hrd.src
  have HH := Lib.hid hh
  have HB1 := Lib.hid hb1
  clear hh hown hgr hrd hb1
  go_wp2_with (with_reducible refine wpList_copy_splice rfl (.tmp 11) (.tmp 12) 22 22 rfl 5 Try.underlying22 Try.size5 _ _ _ _ _ _ rfl rfl w.heap.size 0 _ 5 HH.out (nus .u8 zs) ?d1 ?d2 ?d3 (oneCell_nus _ _) w.heap.size w HB1.out (Nat.le_refl _) ?_)
  case d1 => rw [nus_length, ← HL.out]; exact (Nat.min_eq_left (by omega)).symm
  case d2 => exact hsrc.out
  case d3 => rw [nus_length, ← HL.out, size_made]; omega
  intro w2 h2 hb2
  have hh2 := h2.out
  rw [splice_made zs 4 _ HL.out] at hh2
  have hown2 := own_of_heap (base := w.heap.size) (n := len + 4) hh2 (Nat.le_refl _) (by rw [nus_length, List.length_append, List.length_replicate, ← HL.out]) (by unfold maxLen; omega)
  have HO := Lib.hid hown2
  have HB2 := Lib.hid hb2
  clear hh2 hown2 h2 hb2 hsrc HH HB1 HX
  go_wp2_with (go_at_call 78; (refine (put32_yes w.heap.size (len + 4) (len + 4) w.heap.size len v _ _ HO.out (by unfold maxLen; omega) (Nat.le_refl _) hv).mono ?_); rintro e w3 ⟨rfl, hown3, hgr3⟩)
  go_ret
  refine ⟨_, rfl, ?_, HB2.out.grown hgr3 HB2.out.size (fun k hk => by cases hk; exact Nat.le_refl _)⟩
  rw [putRow_app zs 4 v len HL.out] at hown3
  exact hown3
end Go.Proofs.Ytopfbgoiehlhbaa

/- seg.pseudo. -/
namespace Go.Proofs.Ytopfbgoiehlhbaa
open Go.RowKit

/-- What is summed ahead of a segment. -/
def psd (v : Bool) (S D : List Nat) (p n : Nat) : List Nat := bytesA v S ++ bytesA v D ++ (if v then bg 4 n ++ [0, 0, 0, p] else [0, p] ++ bg 2 n)
theorem psd_lt (v : Bool) (S D : List Nat) (p n : Nat) (hS : ∀ c ∈ S, c < 256) (hD : ∀ c ∈ D, c < 256) (hp : p < 256) : ∀ c ∈ psd v S D p n, c < 256 := by
  intro c hc
  unfold psd at hc
  rcases List.mem_append.1 hc with h | h
  · rcases List.mem_append.1 h with h | h
    · exact bytesA_lt v S hS c h
    · exact bytesA_lt v D hD c h
  · cases v with
    | true =>
      rcases List.mem_append.1 h with h | h
      · exact bg_lt 4 n c h
      · simp at h; omega
    | false =>
      rcases List.mem_append.1 h with h | h
      · simp at h; omega
      · exact bg_lt 2 n c h
theorem psd_len (v : Bool) (S D : List Nat) (p n : Nat) (hS : S.length = 16) (hD : D.length = 16) : (psd v S D p n).length = if v then 40 else 12 := by
  unfold psd
  rw [List.length_append, List.length_append, bytesA_len v S hS, bytesA_len v D hD]
  cases v <;> simp [bg_length]

set_option maxRecDepth 100000 in
set_option maxHeartbeats 4000000 in
theorem pseudo_any (p n : Nat) (v : Bool) (S D : List Nat) (w : World) (hn : n < 65536) (hS : S.length = 16) (hD : D.length = 16) :
    Calls Try.prog 47 #[.int .u8 (p : Int), .int .i64 (n : Int), adr v S, adr v D] w fun e w' => ∃ x, e = .returned x ∧ Rd w' x (nus .u8 (psd v S D p n)) ∧ Below w.heap.size w w' := by
  have CB1 := Lib.hid (fun w' => bytes_own v S hS w')
  have CB2 := Lib.hid (fun w' => bytes_own v D hD w')
  have lF := bytesA_len v S hS
  have lD := bytesA_len v D hD
  obtain ⟨m1, hm1⟩ : ∃ m, m = (bytesA v S).length := ⟨_, rfl⟩
  obtain ⟨m2, hm2⟩ : ∃ m, m = (bytesA v D).length := ⟨_, rfl⟩
  have h1 : 0 < m1 ∧ m1 ≤ 16 := by rw [hm1, lF]; split <;> omega
  have h2 : 0 < m2 ∧ m2 ≤ 16 := by rw [hm2, lD]; split <;> omega
  have HX : Hid (psd v S D p n = bytesA v S ++ bytesA v D ++ (if v then bg 4 n ++ [0, 0, 0, p] else [0, p] ++ bg 2 n)) := rfl
  rw [← hm1] at CB1
  rw [← hm2] at CB2
  have HM1 := Lib.hid hm1
  have HM2 := Lib.hid hm2
  unfold adr at CB1 CB2 ⊢
  have E1 := Lib.hid (show (cellsA v S)[0]? = some (.bool v) from cellsA_head _ _)
  have z1 : (cellsA v S).size = 17 := by rw [cellsA_size, hS]
  have z2 : (cellsA v D).size = 17 := by rw [cellsA_size, hD]
  have I1 := Lib.hid (i24.trans (congrArg some z1.symm))
  have I2 := Lib.hid (i24.trans (congrArg some z2.symm))
  have K := Lib.hid (Below.refl w.heap.size w)
  have hw1 : IntKind.u32.wrap (n : Int) = ((n : Nat) : Int) := by rw [IntKind.wrap_u32]; omega
  have hw2 : IntKind.u16.wrap (n : Int) = ((n : Nat) : Int) := by rw [IntKind.wrap_u16]; omega
  clear z1 z2 hm1 hm2 lF lD hS hD
  generalize cellsA v S = c1 at *
  generalize cellsA v D = c2 at *
  generalize bytesA v S = bf at *
  generalize bytesA v D = bd at *
  generalize psd v S D p n = RES at *
  go_enter Try.func47, Try.ntmps47
  have hal := (Below.refl w.heap.size w).alloc (Nat.le_refl _) (.cells c1 26)
  replace K := Lib.hid (K.out.trans (hal.mono K.out.size))
  have N1 := Lib.hid (Blk.new w 26 c1)
  clear hal
  have hal := (Below.refl (w.alloc (.cells c1 26)).heap.size (w.alloc (.cells c1 26))).alloc (Nat.le_refl _) (.cells c2 26)
  replace K := Lib.hid (K.out.trans (hal.mono K.out.size))
  replace N1 := Lib.hid (N1.out.below hal N1.out.lt)
  have N2q := Blk.new (w.alloc (.cells c1 26)) 26 c2
  simp only [World.size_alloc] at N2q
  have N2 := Lib.hid N2q
  clear N2q
  clear hal
  go_wp2_with fail
  have hzV1 : Hid (((w.alloc (.cells c1 26)).alloc (.cells c2 26)).heap.size = w.heap.size + 1 + 1) := by show _ = _; simp only [World.size_alloc]
  generalize ((w.alloc (.cells c1 26)).alloc (.cells c2 26)) = V1 at *
  refine wp_region_held (S := (fun w' : World => Below (V1.heap.size) V1 w')) (by kernel_rfl) ?_
  change wpAnyH _ _ _ _ _ _ _ _ V1.drew
  have hy : Below V1.heap.size V1 V1.drew := (Below.refl _ _).drew
  have hE0 : Below (V1.heap.size) V1 V1.drew := (Below.refl _ _).drew
  clear hy
  generalize V1.drew = Y1x0 at hE0  ⊢
  have E0 := Lib.hid hE0
  clear hE0
  refine wpAnyH_take (i := 0) (oi := { dst := some 10, op := Op.load 26 (Operand.tmp 6), type := 26, pos := "seg.go:139", after := #[], guard := none }) (v := .agg c1) rfl (by kernel_rfl) (by kernel_rfl) (by kernel_rfl) (fun _ _ _ h => h) (Or.inl ⟨by rfl, ?_⟩) E0.out ?_
  · (intro w1 hS; have hW := hS; exact exec_load 26 (.tmp 6) rfl _ rfl _ (run_blk_load (P := Try.prog) 26 (w.heap.size) _ (N1.out.below hW N1.out.lt) Try.underlying26 rfl I1.out))
  simp only [Act.put, List.setIfInBounds_toArray, List.set_cons_zero, List.set_cons_succ]
  refine wpAnyH_take (i := 2) (oi := { dst := some 12, op := Op.load 26 (Operand.tmp 7), type := 26, pos := "seg.go:139", after := #[], guard := none }) (v := .agg c2) rfl (by kernel_rfl) (by kernel_rfl) (by kernel_rfl) (fun _ _ _ h => h) (Or.inl ⟨by rfl, ?_⟩) E0.out ?_
  · (intro w1 hS; have hW := hS; exact exec_load 26 (.tmp 7) rfl _ rfl _ (run_blk_load (P := Try.prog) 26 (w.heap.size + 1) _ (N2.out.below hW N2.out.lt) Try.underlying26 rfl I2.out))
  simp only [Act.put, List.setIfInBounds_toArray, List.set_cons_zero, List.set_cons_succ]
  refine wpAnyH_ready (rs := [1]) (by kernel_rfl) (by simp) ?_
  refine AllReadyH.cons (o := { dst := some 11, op := Op.call { callee := Callee.value (Operand.func 61), args := #[Operand.tmp 10], argTypes := #[26] }, type := 22, pos := "seg.go:139", after := #[{ on := 0, ground := Ground.data }], guard := none }) rfl (fun KK hK => ?_) AllReadyH.nil
  go_simp
  refine (CB1.out Y1x0).mono ?_
  rintro e Y1x1 ⟨z1, rfl, oz1, hy⟩
  have E1 := Lib.hid (E0.out.trans (hy.mono E0.out.size))
  have C1 := Lib.hid E1.out
  have Z1 := Lib.hid (oz1)
  obtain ⟨g1, k1, rfl, -, -, -, -⟩ := own_at Z1.out (by omega)
  clear oz1
  clear hy E0
  refine hK.out _ _ C1.out (fun _ => ?_)
  clear hK KK
  refine wpAnyH_mono (S' := (fun w' : World => Below Y1x1.heap.size Y1x1 w')) (fun w1 h => C1.out.trans (h.mono C1.out.size)) _ _ _ _ ?_
  clear C1
  try simp only [Act.put, List.setIfInBounds_toArray, List.set_cons_zero, List.set_cons_succ]
  refine wpAnyH_ready (rs := [3]) (by kernel_rfl) (by simp) ?_
  refine AllReadyH.cons (o := { dst := some 13, op := Op.call { callee := Callee.value (Operand.func 61), args := #[Operand.tmp 12], argTypes := #[26] }, type := 22, pos := "seg.go:139", after := #[{ on := 2, ground := Ground.data }, { on := 1, ground := Ground.chain }], guard := none }) rfl (fun KK hK => ?_) AllReadyH.nil
  go_simp
  refine (CB2.out Y1x1).mono ?_
  rintro e Y1x2 ⟨z2, rfl, oz2, hy⟩
  replace Z1 := Lib.hid (row_under Z1.out hy)
  have E2 := Lib.hid (E1.out.trans (hy.mono E1.out.size))
  have C2 := Lib.hid hy
  have Z2 := Lib.hid (oz2)
  obtain ⟨g2, k2, rfl, -, -, -, -⟩ := own_at Z2.out (by omega)
  clear oz2
  clear hy E1
  refine hK.out _ _ C2.out (fun _ => ?_)
  clear hK KK
  refine wpAnyH_mono (S' := (fun w' : World => Below Y1x2.heap.size Y1x2 w')) (fun w1 h => C2.out.trans (h.mono C2.out.size)) _ _ _ _ ?_
  clear C2
  try simp only [Act.put, List.setIfInBounds_toArray, List.set_cons_zero, List.set_cons_succ]
  refine wpAnyH_ready (rs := [4]) (by kernel_rfl) (by simp) ?_
  refine AllReadyH.cons (o := { dst := some 14, op := Op.buildSlice 121 2 #[(0, Operand.tmp 11), (1, Operand.tmp 13)], type := 121, pos := "seg.go:139", after := #[{ on := 1, ground := Ground.data }, { on := 3, ground := Ground.data }], guard := none }) rfl (fun KK hK => ?_) AllReadyH.nil
  go_simp
  have hy := (Below.refl Y1x2.heap.size Y1x2).alloc (Nat.le_refl _) (.cells #[Value.slice (some ⟨g1, 0, none⟩) m1 k1, Value.slice (some ⟨g2, 0, none⟩) m2 k2] 22)
  have BB := Blk.new Y1x2 22 #[Value.slice (some ⟨g1, 0, none⟩) m1 k1, Value.slice (some ⟨g2, 0, none⟩) m2 k2]
  obtain ⟨gb, hgb⟩ : ∃ g, g = Y1x2.heap.size := ⟨_, rfl⟩
  rw [← hgb] at BB
  rw [← hgb]
  have hy2 := hy
  rw [← hgb] at hy2
  generalize Y1x2.alloc (.cells #[Value.slice (some ⟨g1, 0, none⟩) m1 k1, Value.slice (some ⟨g2, 0, none⟩) m2 k2] 22) = Y1x3 at BB hy hy2 ⊢
  clear hgb hy2
  replace BB := Lib.hid BB
  replace Z1 := Lib.hid (row_under Z1.out hy)
  replace Z2 := Lib.hid (row_under Z2.out hy)
  have E3 := Lib.hid (E2.out.trans (hy.mono E2.out.size))
  have C3 := Lib.hid hy
  clear hy E2
  refine hK.out _ _ C3.out (fun _ => ?_)
  clear hK KK
  refine wpAnyH_mono (S' := (fun w' : World => Below Y1x3.heap.size Y1x3 w')) (fun w1 h => C3.out.trans (h.mono C3.out.size)) _ _ _ _ ?_
  clear C3
  try simp only [Act.put, List.setIfInBounds_toArray, List.set_cons_zero, List.set_cons_succ]
  have q5 : w.heap.size ≤ Y1x3.heap.size := Nat.le_trans K.out.size E3.out.size
  refine wpAnyH_ready (rs := [5]) (by kernel_rfl) (by simp) ?_
  refine AllReadyH.cons (o := { dst := some 15, op := Op.call { callee := Callee.value (Operand.func 60), args := #[Operand.tmp 14], argTypes := #[121] }, type := 22, pos := "seg.go:139", after := #[{ on := 4, ground := Ground.data }, { on := 3, ground := Ground.chain }], guard := none }) rfl (fun KK hK => ?_) AllReadyH.nil
  go_simp
  refine (concat_two gb (some ⟨g1, 0, none⟩) (some ⟨g2, 0, none⟩) m1 k1 m2 k2 bf bd Y1x3 (BB.out.cell 0) (BB.out.cell (0 + 1)) (Rd.own Z1.out) (Rd.own Z2.out) HM1.out.symm HM2.out.symm h1.1 h2.1 (by omega) (by omega)).mono ?_
  rintro e Y1x4 ⟨x, rfl, ox, hy⟩
  replace Z1 := Lib.hid (row_under Z1.out hy)
  replace Z2 := Lib.hid (row_under Z2.out hy)
  replace BB := Lib.hid (BB.out.below hy BB.out.lt)
  have E4 := Lib.hid (E3.out.trans (hy.mono E3.out.size))
  have C4 := Lib.hid hy
  have X := Lib.hid (ox)
  obtain ⟨gx, kx, rfl, hkx, hkxm, -, -⟩ := own_at X.out (by omega)
  clear ox
  clear hy E3
  refine hK.out _ _ C4.out (fun _ => ?_)
  clear hK KK
  refine wpAnyH_mono (S' := (fun w' : World => Below Y1x4.heap.size Y1x4 w')) (fun w1 h => C4.out.trans (h.mono C4.out.size)) _ _ _ _ ?_
  clear C4
  try simp only [Act.put, List.setIfInBounds_toArray, List.set_cons_zero, List.set_cons_succ]
  refine wpAnyH_take (i := 6) (oi := { dst := some 9, op := Op.assign (Operand.tmp 15), type := 22, pos := "seg.go:139", after := #[{ on := 5, ground := Ground.data }, { on := 5, ground := Ground.chain }, { on := 0, ground := Ground.phase }, { on := 1, ground := Ground.phase }, { on := 2, ground := Ground.phase }, { on := 3, ground := Ground.phase }, { on := 4, ground := Ground.phase }, { on := 5, ground := Ground.phase }], guard := none }) (v := ?_) rfl (by kernel_rfl) (by kernel_rfl) (by kernel_rfl) (fun _ _ _ h => h) (Or.inl ⟨by rfl, ?_⟩) (Below.refl _ _) ?_
  rotate_left
  · (intro w1 hS; go_simp; try with_reducible rfl)
  simp only [Act.put, List.setIfInBounds_toArray, List.set_cons_zero, List.set_cons_succ]
  refine wpAnyH_done (by kernel_rfl) ?_ _
  have hy := E4.out
  replace K := Lib.hid (K.out.trans (hy.mono K.out.size))
  replace N1 := Lib.hid (N1.out.below hy N1.out.lt)
  replace N2 := Lib.hid (N2.out.below hy N2.out.lt)
  clear hy E4
  have X2 := Lib.hid (Rd.own X.out)
  have O := X
  clear X Z1 Z2 BB
  have hc1 := (N1.out.cell 0).trans E1.out
  cases v with
  | true =>
    have hw := hw1
    have q4 : w.heap.size ≤ Y1x4.heap.size := K.out.size
    go_wp2_with fail
    refine (app32_any _ _ n _ X2.out (by rw [List.length_append, ← HM1.out, ← HM2.out]; omega) (by omega)).mono ?_
    rintro e V2 ⟨y, rfl, oy, hy⟩
    replace K := Lib.hid (K.out.trans (hy.mono K.out.size))
    replace N1 := Lib.hid (N1.out.below hy N1.out.lt)
    replace N2 := Lib.hid (N2.out.below hy N2.out.lt)
    replace X2 := Lib.hid (X2.out.below hy)
    have O := Lib.hid (oy)
    rw [List.length_append, ← HM1.out, ← HM2.out] at oy
    clear O
    have O := Lib.hid oy
    clear oy hc1
    clear hy
    obtain ⟨gy, ky, rfl, hkgy, hkgym, hlgy, hugy⟩ := own_at O.out (by omega)
    replace O := Lib.hid (own_low q4 O.out)
    have L := Lib.hid K.out
    clear K N1 N2 X2
    have hal := (Below.refl V2.heap.size V2).alloc (Nat.le_refl _) (.cells #[Value.int .u8 0, Value.int .u8 0, Value.int .u8 0, .int .u8 (p : Int)] 5)
    have RL := Lib.hid (show Rd (V2.alloc (.cells #[Value.int .u8 0, Value.int .u8 0, Value.int .u8 0, .int .u8 (p : Int)] 5)) (.slice (some ⟨V2.heap.size, 0, none⟩) 4 4) (nus .u8 [0, 0, 0, p]) from rd_lit V2 .u8 5 [0, 0, 0, p] 4 (0, 0) rfl (by simp [maxLen]))
    replace O := Lib.hid (row_under O.out hal)
    replace L := Lib.hid (L.out.trans (hal.mono L.out.size))
    clear hal
    go_wp2_with ((at_builtin; refine wpList_app rfl (.tmp 21) (.tmp 23) rfl w.heap.size _ (m1 + m2 + 4) (bf ++ bd ++ bg 4 n) rfl O.out (some ⟨V2.heap.size, 0, none⟩) (4) (4) [0, 0, 0, p] rfl (RL.out) (by intro e; cases e) ?ap1b ?ap1c ?ap1d))
    case ap1b => omega
    case ap1c => exact L.out.size
    intro vx V3 oz gz
    replace L := Lib.hid (L.out.grown gz L.out.size (fun k e => by first | exact (O.out.lt k e).1 | (cases e; first | exact Nat.le_refl _ | omega)))
    have oz : V3.ownsRow w.heap.size 5 1 vx (m1 + m2 + 4 + 4) (nus .u8 (bf ++ bd ++ bg 4 n ++ [0, 0, 0, p])) := by first | exact oz | simpa using oz
    replace O := Lib.hid oz
    obtain ⟨gr, kr, rfl, hkr, hkrm, hgr, hgru⟩ := own_at O.out (by omega)
    clear oz gz
    have e : bf ++ bd ++ bg 4 n ++ [0, 0, 0, p] = RES := by rw [HX.out, if_pos trivial]; simp
    have O3 := O.out
    rw [e] at O3
    have O4 := Lib.hid O3
    clear e O3
    go_wp2
    go_ret
    exact ⟨_, rfl, Rd.own O4.out, L.out⟩
  | false =>
    have hw := hw2
    have q4 : w.heap.size ≤ Y1x4.heap.size := K.out.size
    replace O := Lib.hid (own_low q5 O.out)
    have L := Lib.hid K.out
    clear K N1 N2 X2
    have hal := (Below.refl Y1x4.heap.size Y1x4).alloc (Nat.le_refl _) (.cells #[Value.int .u8 0, .int .u8 (p : Int)] 5)
    have RL := Lib.hid (show Rd (Y1x4.alloc (.cells #[Value.int .u8 0, .int .u8 (p : Int)] 5)) (.slice (some ⟨Y1x4.heap.size, 0, none⟩) 2 2) (nus .u8 [0, p]) from rd_lit Y1x4 .u8 5 [0, p] 2 (0, 0) rfl (by simp [maxLen]))
    replace O := Lib.hid (row_under O.out hal)
    replace L := Lib.hid (L.out.trans (hal.mono L.out.size))
    clear hal
    go_wp2_with ((at_builtin; refine wpList_app rfl (.tmp 25) (.tmp 27) rfl w.heap.size _ (m1 + m2) (bf ++ bd) rfl O.out (some ⟨Y1x4.heap.size, 0, none⟩) (2) (2) [0, p] rfl (RL.out) (by intro e; cases e) ?ap2b ?ap2c ?ap2d))
    case ap2b => omega
    case ap2c => exact L.out.size
    intro vx V2 oz gz
    replace L := Lib.hid (L.out.grown gz L.out.size (fun k e => by first | exact (O.out.lt k e).1 | (cases e; first | exact Nat.le_refl _ | omega)))
    have oz : V2.ownsRow w.heap.size 5 1 vx (m1 + m2 + 2) (nus .u8 (bf ++ bd ++ [0, p])) := by first | exact oz | simpa using oz
    replace O := Lib.hid oz
    obtain ⟨gr, kr, rfl, hkr, hkrm, hgr, hgru⟩ := own_at O.out (by omega)
    clear oz gz
    have HLb : Hid ((bf ++ bd ++ [0, p]).length = m1 + m2 + 2) := by show _ = _; rw [List.length_append, List.length_append, ← HM1.out, ← HM2.out]; rfl
    have hb2 := L.out.size
    go_wp2_with fail
    refine (app16_any _ (bf ++ bd ++ [0, p]) n _ (Rd.own O.out) (by rw [HLb.out]; omega) hn).mono ?_
    rintro e Wz ⟨y, rfl, oy, hy⟩
    have L2 := Lib.hid (L.out.trans (hy.mono L.out.size))
    have e : bf ++ bd ++ [0, p] ++ bg 2 n = RES := by rw [HX.out, if_neg (by simp)]; simp
    rw [e] at oy
    have O4 := Lib.hid oy
    clear e oy hy
    go_wp2
    go_ret
    exact ⟨_, rfl, Rd.own O4.out, L2.out⟩
end Go.Proofs.Ytopfbgoiehlhbaa

