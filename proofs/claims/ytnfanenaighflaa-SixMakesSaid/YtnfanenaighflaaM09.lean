/- Texts that the walks of this seat lean on, put together: each has its own remark below. -/
import Derived.Deep.CutBlock
import Derived.Deep.DeepCutAuto
import Derived.Test.YtnfanenaighflaaM01
import Derived.Test.YtnfanenaighflaaM05
import Derived.Test.YtnfanenaighflaaM07

/- The walk of SixReasons. -/
namespace Go.Proofs.Ytnfanenaighflaa
open Go.RowKit

theorem eq_s0 (w : World) : (Op.equalIn 10000 29 (.agg s0) (.agg #[Value.int .i64 0, .int .u8 0, .bool false, .int .u8 0, .int .u8 0, .int .u8 0, .int .u8 0, .int .u8 0, .int .u8 0, .int .u8 0, .int .u8 0, .int .u8 0, .int .u8 0, .int .u8 0, .int .u8 0, .int .u8 0, .int .u8 0, .int .u8 0, .int .u8 0, .bool false, .int .u8 0, .int .u8 0, .int .u8 0, .int .u8 0, .int .u8 0, .int .u8 0, .int .u8 0, .int .u8 0, .int .u8 0, .int .u8 0, .int .u8 0, .int .u8 0, .int .u8 0, .int .u8 0, .int .u8 0, .int .u8 0])).run Try.prog w = .ok true w := by
  rw [show s0 = #[Value.int .i64 0, .int .u8 0, .bool false, .int .u8 0, .int .u8 0, .int .u8 0, .int .u8 0, .int .u8 0, .int .u8 0, .int .u8 0, .int .u8 0, .int .u8 0, .int .u8 0, .int .u8 0, .int .u8 0, .int .u8 0, .int .u8 0, .int .u8 0, .int .u8 0, .bool false, .int .u8 0, .int .u8 0, .int .u8 0, .int .u8 0, .int .u8 0, .int .u8 0, .int .u8 0, .int .u8 0, .int .u8 0, .int .u8 0, .int .u8 0, .int .u8 0, .int .u8 0, .int .u8 0, .int .u8 0, .int .u8 0] from rfl]
  obtain ⟨r, hr, he⟩ := run_equalIn_deep (P := Try.prog) 9996 4 29 (by kernel_rfl) w 4 4 _ _ ([.int .i64 0, .int .u8 0, .bool false, .int .u8 0, .int .u8 0, .int .u8 0, .int .u8 0, .int .u8 0, .int .u8 0, .int .u8 0, .int .u8 0, .int .u8 0, .int .u8 0, .int .u8 0, .int .u8 0, .int .u8 0, .int .u8 0, .int .u8 0, .int .u8 0, .bool false, .int .u8 0, .int .u8 0, .int .u8 0, .int .u8 0, .int .u8 0, .int .u8 0, .int .u8 0, .int .u8 0, .int .u8 0, .int .u8 0, .int .u8 0, .int .u8 0, .int .u8 0, .int .u8 0, .int .u8 0, .int .u8 0]) ([.int .i64 0, .int .u8 0, .bool false, .int .u8 0, .int .u8 0, .int .u8 0, .int .u8 0, .int .u8 0, .int .u8 0, .int .u8 0, .int .u8 0, .int .u8 0, .int .u8 0, .int .u8 0, .int .u8 0, .int .u8 0, .int .u8 0, .int .u8 0, .int .u8 0, .bool false, .int .u8 0, .int .u8 0, .int .u8 0, .int .u8 0, .int .u8 0, .int .u8 0, .int .u8 0, .int .u8 0, .int .u8 0, .int .u8 0, .int .u8 0, .int .u8 0, .int .u8 0, .int .u8 0, .int .u8 0, .int .u8 0]) (by kernel_rfl) (by kernel_rfl) (by kernel_rfl) (by kernel_rfl)
  have e : r = true := he.2 rfl
  subst e
  exact hr
theorem own_put6 {w : World} {base g n cap : Nat} {zs : List Nat} (h : w.ownsRow base 5 1 (.slice (some ⟨g, 0, none⟩) n cap) n (nus .u8 zs)) (j v : Nat) :
    (w.setCell ⟨g, j, none⟩ (.int .u8 (v : Int))).ownsRow base 5 1 (.slice (some ⟨g, 0, none⟩) n cap) n (nus .u8 (zs.set j v)) ∧ w.grownBy (w.setCell ⟨g, j, none⟩ (.int .u8 (v : Int))) (some g) := by
  have := h.stored j (.int .u8 (v : Int))
  rw [nus_set] at this
  exact this
theorem own_cell6 {w : World} {base g n cap : Nat} {zs : List Nat} (h : w.ownsRow base 5 1 (.slice (some ⟨g, 0, none⟩) n cap) n (nus .u8 zs)) (j : Nat) (hj : j < n) :
    w.cell? ⟨g, j, none⟩ = some (.int .u8 ((zs.getD j 0 : Nat) : Int)) ∧ w.frozen? ⟨g, j, none⟩ = false := by
  have hl : zs.length = n := by have := h.1; rw [nus_length] at this; omega
  refine ⟨?_, h.frozenAt j⟩
  rw [h.cellAt j (by omega), nus_get _ _ _ (by omega)]
/-- The packet of SixReasons. -/
def qB (u : Nat) : List Nat := mk6 (kS u ++ List.replicate 12 0) (kD ++ List.replicate 12 0) 6 3 ++ [1, 2, 3]
theorem qB_length (u : Nat) : (qB u).length = 43 := by simp [qB, mk6_length, kS, kD]
theorem kS_lt (u : Nat) : ∀ c ∈ kS u, c < 256 := by simp [kS]; omega
theorem qB_lt (u : Nat) : ∀ c ∈ qB u, c < 256 := by
  intro c hc
  rcases List.mem_append.1 hc with h | h
  · refine mk6_lt _ _ 6 3 ?_ ?_ (by omega) c h
    · intro c hc; rcases List.mem_append.1 hc with h | h; exact kS_lt u c h; have := (List.mem_replicate.1 h).2; omega
    · intro c hc; rcases List.mem_append.1 hc with h | h; exact (show ∀ c ∈ kD, c < 256 by decide) c h; have := (List.mem_replicate.1 h).2; omega
  · exact (show ∀ c ∈ [1, 2, 3], c < 256 by decide) c h
theorem qB_u2 (u : Nat) : u2 (qB u) 4 = 3 := mk6_u2 _ _ _ _ _ (by omega)
theorem qB_cons (u : Nat) : ∃ r, qB u = [96, 0, 0, 0, 0, 3, 6, 64] ++ r ∧ r.length = 35 := ⟨_, mk6_cons _ _ _ _ _, by simp [kS, kD]⟩
theorem q0 (u : Nat) : f6 (qB u) = 0 := mk6_f _ _ _ 6 3 rfl rfl (by omega) (.inl rfl) (by simp)
theorem q1 (u : Nat) : f6 ((qB u).take 39) = 1 := mk6_cut _ _ _ 6 3 rfl rfl (by omega) 39 (by omega) (by simp)
theorem q3 (u : Nat) : f6 ((qB u).take 42) = 1 := mk6_cut _ _ _ 6 3 rfl rfl (by omega) 42 (by omega) (by simp)
theorem q2 (u : Nat) : f6 ((qB u).set 0 64) = 3 := by
  obtain ⟨r, h, hr⟩ := qB_cons u
  rw [h]; simp [f6, hr]
theorem q4 (u : Nat) : f6 ((qB u).set 6 44) = 5 := by
  obtain ⟨r, h, hr⟩ := qB_cons u
  rw [h]; simp [f6, hr, u2]
theorem q5 (u : Nat) : f6 ((qB u).set 6 58) = 6 := by
  obtain ⟨r, h, hr⟩ := qB_cons u
  rw [h]; simp [f6, hr, u2]
theorem set_lt {zs : List Nat} (h : ∀ c ∈ zs, c < 256) (j v : Nat) (hv : v < 256) : ∀ c ∈ zs.set j v, c < 256 := by
  intro c hc
  rcases List.mem_or_eq_of_mem_set hc with h1 | rfl
  · exact h c h1
  · exact hv
/-- What the switch leaves. -/
def SwRel6 (w : World) (bk : Nat) (kc : Array Value) (gb cb : Nat) (z wt : Value) (wx : World) : Prop :=
  Below w.heap.size w wx ∧ Blk wx bk 42 kc ∧
    (∃ (Z : List Nat) (len f : Nat), z = .slice (some ⟨gb, 0, none⟩) len cb ∧ wt = .int .i64 (f : Int) ∧ Rd wx z (nus .u8 Z) ∧ (∀ c ∈ Z, c < 256) ∧ f6 Z = f)

set_option maxRecDepth 100000 in
set_option maxHeartbeats 8000000 in
theorem reasons6 (n k : Int) (w : World) :
    Calls Try.prog 5 #[.int .i64 n, .int .i64 k] w fun e w' => e = .returned (.bool true) ∧ Below w.heap.size w w' := by
  obtain ⟨u, hu⟩ : ∃ u : Nat, u = (n % 1073741824).toNat := ⟨_, rfl⟩
  have hun : n % 1073741824 = (u : Int) := by omega
  have hul : u < 1073741824 := by omega
  obtain ⟨q, hq⟩ : ∃ q : Nat, q = (k % 6).toNat := ⟨_, rfl⟩
  have hqm : k % 6 = (q : Int) := by omega
  have hql : q < 6 := by omega
  obtain ⟨S, hS⟩ : ∃ S, S = cellsA true (kS u ++ List.replicate 12 0) := ⟨_, rfl⟩
  obtain ⟨D, hD⟩ : ∃ D, D = cellsA true (kD ++ List.replicate 12 0) := ⟨_, rfl⟩
  have zS : S.size = 17 := by rw [hS]; rfl
  have zD : D.size = 17 := by rw [hD]; rfl
  obtain ⟨kc, hkc⟩ : ∃ kc, kc = kcells 17 S D (1000 + u % 50000) 80 := ⟨_, rfl⟩
  have CK := Lib.hid (show ∀ W, Calls Try.prog 15 #[.int .i64 n, .bool true, .bool true] W fun e w' => e = .returned (.agg kc) ∧ Below W.heap.size W w' from fun W => by rw [hkc, hS, hD]; exact key_udp n true u _ W hun hul rfl)
  have CM := Lib.hid (show ∀ W, Calls Try.prog 11 #[.agg S, .agg D, .int .u8 6, .int .i64 3] W fun e w' => ∃ x, e = .returned (.tuple #[x, .bool true]) ∧ w'.ownsRow W.heap.size 5 1 x 40 (nus .u8 (mk6 (kS u ++ List.replicate 12 0) (kD ++ List.replicate 12 0) 6 3)) ∧ Below W.heap.size W w' from fun W => by rw [hS, hD]; exact make_yes _ _ 6 3 W rfl rfl (by omega))
  have CR := Lib.hid (fun W z Z (h : Rd W z (nus .u8 Z)) hb => read_any z Z W h hb)
  have CD := Lib.hid (show ∀ W z Z, Rd W z (nus .u8 Z) → (∀ c ∈ Z, c < 256) → f6 Z ≠ 0 → Calls Try.prog 13 #[z, .agg D] W fun e w' => e = .returned (.slice none 0 0) ∧ Below W.heap.size W w' from fun W z Z h hb hf => by rw [hD]; exact dest_no z Z true _ W h hb (.inl hf))
  have CN := Lib.hid (fun W => round_any k 6 W (by omega) (by omega))
  rw [hqm] at CN
  have kp1 := Lib.hid (show (kc.toList.drop 1).take S.toList.length = S.toList by rw [hkc]; exact kcells_src _ _ _ _ _)
  have kp2 := Lib.hid (show (kc.toList.drop 18).take D.toList.length = D.toList by rw [hkc]; exact kcells_dst _ _ _ _ _ zS)
  have IS := Lib.hid (i24.trans (congrArg some (show (17 : Nat) = S.toList.length by simp [zS])))
  have ID := Lib.hid (i24.trans (congrArg some (show (17 : Nat) = D.toList.length by simp [zD])))
  have zk : kc.size = 37 := by rw [hkc]; exact kcells_size _ _ _ _ _ zS zD
  have AS : S.all (·.oneCell') = true := by rw [hS]; exact cellsA_all _ _
  have AD : D.all (·.oneCell') = true := by rw [hD]; exact cellsA_all _ _
  have Ak := Lib.hid (show kc.all (·.oneCell') = true by rw [hkc]; exact kcells_all _ _ _ _ _ AS AD)
  have Zk := Lib.hid (i42.trans (congrArg some zk.symm))
  have Yk : Hid (kc.size = Array.size (#[Value.int .u8 0, .bool false, .int .u8 0, .int .u8 0, .int .u8 0, .int .u8 0, .int .u8 0, .int .u8 0, .int .u8 0, .int .u8 0, .int .u8 0, .int .u8 0, .int .u8 0, .int .u8 0, .int .u8 0, .int .u8 0, .int .u8 0, .int .u8 0, .bool false, .int .u8 0, .int .u8 0, .int .u8 0, .int .u8 0, .int .u8 0, .int .u8 0, .int .u8 0, .int .u8 0, .int .u8 0, .int .u8 0, .int .u8 0, .int .u8 0, .int .u8 0, .int .u8 0, .int .u8 0, .int .u8 0, .int .u16 0, .int .u16 0] : Array Value)) := zk
  have Z0 := Lib.hid (i36.trans (congrArg some s0_size.symm))
  have Y0 : Hid (s0.size = Array.size (#[Value.int .i64 0, .int .u8 0, .bool false, .int .u8 0, .int .u8 0, .int .u8 0, .int .u8 0, .int .u8 0, .int .u8 0, .int .u8 0, .int .u8 0, .int .u8 0, .int .u8 0, .int .u8 0, .int .u8 0, .int .u8 0, .int .u8 0, .int .u8 0, .int .u8 0, .bool false, .int .u8 0, .int .u8 0, .int .u8 0, .int .u8 0, .int .u8 0, .int .u8 0, .int .u8 0, .int .u8 0, .int .u8 0, .int .u8 0, .int .u8 0, .int .u8 0, .int .u8 0, .int .u8 0, .int .u8 0, .int .u8 0] : Array Value)) := s0_size
  have A0 := Lib.hid s0_all
  have QS0 := Lib.hid eq_s0
  obtain ⟨B, hB⟩ : ∃ B, B = qB u := ⟨_, rfl⟩
  have bl := qB_length u
  have bb := qB_lt u
  have e0 := q0 u
  have e1 := q1 u
  have e2 := q2 u
  have e3 := q3 u
  have e4 := q4 u
  have e5 := q5 u
  have y0 : (qB u).getD 0 0 = 96 := by obtain ⟨r, h, hr⟩ := qB_cons u; rw [h]; rfl
  have y6 : (qB u).getD 6 0 = 6 := by obtain ⟨r, h, hr⟩ := qB_cons u; rw [h]; rfl
  have BD : Hid ([] ++ mk6 (kS u ++ List.replicate 12 0) (kD ++ List.replicate 12 0) 6 3 ++ [1, 2, 3] = B) := by show _ = _; rw [hB]; rfl
  rw [← hB] at bl bb e0 e1 e2 e3 e4 e5 y0 y6
  clear hB
  obtain ⟨M, hM⟩ : ∃ M, M = mk6 (kS u ++ List.replicate 12 0) (kD ++ List.replicate 12 0) 6 3 := ⟨_, rfl⟩
  rw [← hM] at CM BD
  have K := Lib.hid (Below.refl w.heap.size w)
  clear hu hun hul hq hqm hS hD zS zD hkc zk AS AD hM
  go_enter Try.func5, Try.ntmps5
  go_wp2_with fail
  refine (CK.out _).mono ?_
  rintro e V1 ⟨rfl, hy⟩
  replace K := Lib.hid (K.out.trans (hy.mono K.out.size))
  clear hy
  go_wp2_with (((with_reducible refine wpList_blk_store (op := ⟨none, .store 42 (.tmp 5) (.tmp 13), _, _, _, _⟩) ?sg1 42 (.tmp 5) (.tmp 13) ?so1 (V1.heap.size) kc ?sx1 ?sy1 (Blk.new V1 42 #[Value.int .u8 0, .bool false, .int .u8 0, .int .u8 0, .int .u8 0, .int .u8 0, .int .u8 0, .int .u8 0, .int .u8 0, .int .u8 0, .int .u8 0, .int .u8 0, .int .u8 0, .int .u8 0, .int .u8 0, .int .u8 0, .int .u8 0, .int .u8 0, .bool false, .int .u8 0, .int .u8 0, .int .u8 0, .int .u8 0, .int .u8 0, .int .u8 0, .int .u8 0, .int .u8 0, .int .u8 0, .int .u8 0, .int .u8 0, .int .u8 0, .int .u8 0, .int .u8 0, .int .u8 0, .int .u8 0, .int .u16 0, .int .u16 0]) Yk.out Zk.out Ak.out ?_); (case sg1 => rfl); (case so1 => rfl); (case sx1 => rfl); (case sy1 => rfl)))
  intro V2 hA hF hB
  have hy := ((Below.refl V1.heap.size V1).alloc (Nat.le_refl _) (.cells #[Value.int .u8 0, .bool false, .int .u8 0, .int .u8 0, .int .u8 0, .int .u8 0, .int .u8 0, .int .u8 0, .int .u8 0, .int .u8 0, .int .u8 0, .int .u8 0, .int .u8 0, .int .u8 0, .int .u8 0, .int .u8 0, .int .u8 0, .int .u8 0, .bool false, .int .u8 0, .int .u8 0, .int .u8 0, .int .u8 0, .int .u8 0, .int .u8 0, .int .u8 0, .int .u8 0, .int .u8 0, .int .u8 0, .int .u8 0, .int .u8 0, .int .u8 0, .int .u8 0, .int .u8 0, .int .u8 0, .int .u16 0, .int .u16 0] 42)).trans (hB _ (Nat.le_refl _))
  replace K := Lib.hid (K.out.trans (hy.mono K.out.size))
  have NK := Lib.hid hA
  clear hA hF hB hy
  have L2 : (loadVar 25 ⟨V1.heap.size, 1, none⟩).run Try.prog V2 = .ok (.agg S) V2 := by have h := run_part_load (P := Try.prog) 25 1 S.toList _ NK.out kp1.out Try.underlying25 rfl IS.out; rwa [Array.toArray_toList] at h
  replace L2 := Lib.hid L2
  have L3 : (loadVar 25 ⟨V1.heap.size, 18, none⟩).run Try.prog V2 = .ok (.agg D) V2 := by have h := run_part_load (P := Try.prog) 25 18 D.toList _ NK.out kp2.out Try.underlying25 rfl ID.out; rwa [Array.toArray_toList] at h
  replace L3 := Lib.hid L3
  go_wp2_with (first | ((with_reducible refine wpList_load_want (op := ⟨some 16, .load 25 (.tmp 15), _, _, _, _⟩) ?wg2 25 (.tmp 15) ?wo2 ⟨V1.heap.size, 1, none⟩ ?wx2 (.agg S) L2.out ?_); (case wg2 => rfl); (case wo2 => rfl); (case wx2 => rfl)) | ((with_reducible refine wpList_load_want (op := ⟨some 18, .load 25 (.tmp 17), _, _, _, _⟩) ?wg3 25 (.tmp 17) ?wo3 ⟨V1.heap.size, 18, none⟩ ?wx3 (.agg D) L3.out ?_); (case wg3 => rfl); (case wo3 => rfl); (case wx3 => rfl)))
  clear L2 L3
  refine (CM.out _).mono ?_
  rintro e V3 ⟨x, rfl, ox, hy⟩
  replace K := Lib.hid (K.out.trans (hy.mono K.out.size))
  replace NK := Lib.hid (NK.out.below hy NK.out.lt)
  have R := Lib.hid (Rd.own ox)
  obtain ⟨gx, cx, rfl, hcx, hcxm, -, -⟩ := own_at ox (by omega)
  clear ox
  clear hy
  have K0 := Lib.hid K.out.size
  have NK0 := Lib.hid NK.out.lt
  have L := Lib.hid (Below.refl V3.heap.size V3)
  have hal := (Below.refl V3.heap.size V3).alloc (Nat.le_refl _) (.cells #[] 5)
  have O := Lib.hid (own_low (b1 := V3.heap.size) L.out.size (own_none V3 5))
  replace L := Lib.hid (L.out.trans (hal.mono L.out.size))
  clear hal
  go_wp2_with ((at_builtin; refine wpList_app rfl (.tmp 29) (.tmp 30) rfl V3.heap.size _ (0) [] rfl O.out (some ⟨gx, 0, none⟩) (40) (cx) M rfl (R.out.below L.out) (by intro e; cases e) ?ap4b ?ap4c ?ap4d))
  case ap4b => omega
  case ap4c => exact L.out.size
  intro vx V4 oz gz
  replace L := Lib.hid (L.out.grown gz L.out.size (fun k e => by first | exact (O.out.lt k e).1 | (cases e; first | exact Nat.le_refl _ | omega)))
  have oz : V4.ownsRow V3.heap.size 5 1 vx (40) (nus .u8 (M)) := by first | exact oz | simpa using oz
  replace O := Lib.hid oz
  obtain ⟨g1, cq1, rfl, hcq1, hcq1m, hg1, hg1u⟩ := own_at O.out (by omega)
  clear oz gz
  have b8 := (Below.refl V4.heap.size V4).alloc (Nat.le_refl _) (.cells (nus .u8 [1, 2, 3]).toArray 5)
  have R8 := Lib.hid (rd_lit V4 .u8 5 [1, 2, 3] 3 (0, 0) rfl (by simp [maxLen]))
  replace O := Lib.hid (row_under O.out b8)
  replace L := Lib.hid (L.out.trans (b8.mono L.out.size))
  clear b8 R
  go_wp2_with ((at_builtin; refine wpList_app rfl (.tmp 31) (.tmp 32) rfl V3.heap.size _ (40) M rfl O.out (some _) (3) (3) [1, 2, 3] rfl (R8.out) (by intro e; cases e) ?ap5b ?ap5c ?ap5d))
  case ap5b => omega
  case ap5c => exact L.out.size
  intro vx V5 oz gz
  replace L := Lib.hid (L.out.grown gz L.out.size (fun k e => by first | exact (O.out.lt k e).1 | (cases e; first | exact Nat.le_refl _ | omega)))
  replace O := Lib.hid oz
  obtain ⟨gb, cb, rfl, hcb, hcbm, hgb, hgbu⟩ := own_at O.out (by omega)
  clear oz gz
  clear R8
  have hy := L.out
  replace K := Lib.hid (K.out.trans (hy.mono K.out.size))
  replace NK := Lib.hid (NK.out.below hy NK.out.lt)
  clear hy L
  have O2 := O.out
  rw [show M ++ [1, 2, 3] = B from BD.out] at O2
  replace O := Lib.hid O2
  clear O2 BD
  go_wp2_with fail
  refine (CN.out _).mono ?_
  rintro e V6 ⟨rfl, rfl⟩
  have hgw : w.heap.size ≤ gb := Nat.le_trans K0.out hgb
  have hbk : V1.heap.size < gb := Nat.lt_of_lt_of_le NK0.out hgb
  go_upto_block 0 with fail
  go_cut [8, 9] (fun z wt wx => SwRel6 w V1.heap.size kc gb cb z wt wx)
  case first =>
    have hq6 : q = 0 ∨ q = 1 ∨ q = 2 ∨ q = 3 ∨ q = 4 ∨ q = 5 := by omega
    rcases hq6 with rfl | rfl | rfl | rfl | rfl | rfl
    · go_wp2_with fail
      go_meet
      case rel => exact ⟨K.out, NK.out, _, 43, 0, rfl, rfl, Rd.own O.out, bb, e0⟩
    · go_wp2_with fail
      go_meet
      case rel => exact ⟨K.out, NK.out, _, 39, 1, rfl, rfl, (Rd.own O.out).front 39 (by omega), fun c hc => bb c (List.mem_of_mem_take hc), e1⟩
    · have c0 := (own_cell6 O.out 0 (by omega)).1
      rw [y0] at c0
      have f0 := (own_cell6 O.out 0 (by omega)).2
      have p0 := own_put6 O.out 0 64
      have h0 := Lib.hid (K.out.grown p0.2 K.out.size (fun k e => by cases e; exact hgw))
      have a0 := Lib.hid (show Blk _ _ _ _ from (p0.2.block _ NK.out.lt (by simp; omega)).trans NK.out)
      have OO := Lib.hid p0.1
      clear p0
      go_wp2_with fail
      go_meet
      case rel => exact ⟨h0.out, a0.out, _, 43, 3, rfl, rfl, Rd.own OO.out, set_lt bb 0 64 (by omega), e2⟩
    · go_wp2_with fail
      go_meet
      case rel => exact ⟨K.out, NK.out, _, 42, 1, rfl, rfl, (Rd.own O.out).front 42 (by omega), fun c hc => bb c (List.mem_of_mem_take hc), e3⟩
    · have c0 := (own_cell6 O.out 6 (by omega)).1
      rw [y6] at c0
      have f0 := (own_cell6 O.out 6 (by omega)).2
      have p0 := own_put6 O.out 6 44
      have h0 := Lib.hid (K.out.grown p0.2 K.out.size (fun k e => by cases e; exact hgw))
      have a0 := Lib.hid (show Blk _ _ _ _ from (p0.2.block _ NK.out.lt (by simp; omega)).trans NK.out)
      have OO := Lib.hid p0.1
      clear p0
      go_wp2_with fail
      go_meet
      case rel => exact ⟨h0.out, a0.out, _, 43, 5, rfl, rfl, Rd.own OO.out, set_lt bb 6 44 (by omega), e4⟩
    · have c0 := (own_cell6 O.out 6 (by omega)).1
      rw [y6] at c0
      have f0 := (own_cell6 O.out 6 (by omega)).2
      have p0 := own_put6 O.out 6 58
      have h0 := Lib.hid (K.out.grown p0.2 K.out.size (fun k e => by cases e; exact hgw))
      have a0 := Lib.hid (show Blk _ _ _ _ from (p0.2.block _ NK.out.lt (by simp; omega)).trans NK.out)
      have OO := Lib.hid p0.1
      clear p0
      go_wp2_with fail
      go_meet
      case rel => exact ⟨h0.out, a0.out, _, 43, 6, rfl, rfl, Rd.own OO.out, set_lt bb 6 58 (by omega), e5⟩
  case rest =>
    obtain ⟨hK, hA, Z, len, f, rfl, rfl, hr, hb, hff⟩ := hcut
    replace K := Lib.hid hK
    replace NK := Lib.hid hA
    have R := Lib.hid hr
    have FF := Lib.hid hff
    clear hK hA hr hff O
    by_cases hf0 : f = 0
    · subst hf0
      have zh := hd6_size Z
      have Zh := Lib.hid (i36.trans (congrArg some zh.symm))
      have Yh : Hid ((hd6 Z).size = Array.size (#[Value.int .i64 0, .int .u8 0, .bool false, .int .u8 0, .int .u8 0, .int .u8 0, .int .u8 0, .int .u8 0, .int .u8 0, .int .u8 0, .int .u8 0, .int .u8 0, .int .u8 0, .int .u8 0, .int .u8 0, .int .u8 0, .int .u8 0, .int .u8 0, .int .u8 0, .bool false, .int .u8 0, .int .u8 0, .int .u8 0, .int .u8 0, .int .u8 0, .int .u8 0, .int .u8 0, .int .u8 0, .int .u8 0, .int .u8 0, .int .u8 0, .int .u8 0, .int .u8 0, .int .u8 0, .int .u8 0, .int .u8 0] : Array Value)) := zh
      have Ah := Lib.hid (hd6_all Z)
      have CR2 := Lib.hid (CR.out _ _ Z R.out hb)
      rw [FF.out] at CR2
      generalize hd6 Z = hdc at *
      clear zh CR
      go_wp2_with fail
      refine (CR2.out).mono ?_
      rintro e V7 ⟨rfl, hy⟩
      replace K := Lib.hid (K.out.trans (hy.mono K.out.size))
      replace NK := Lib.hid (NK.out.below hy NK.out.lt)
      replace R := Lib.hid (R.out.below hy)
      clear hy
      go_wp2_with (((with_reducible refine wpList_blk_store (op := ⟨none, .store 29 (.tmp 10) (.tmp 59), _, _, _, _⟩) ?sg6 29 (.tmp 10) (.tmp 59) ?so6 (V7.heap.size) hdc ?sx6 ?sy6 (Blk.new V7 29 #[Value.int .i64 0, .int .u8 0, .bool false, .int .u8 0, .int .u8 0, .int .u8 0, .int .u8 0, .int .u8 0, .int .u8 0, .int .u8 0, .int .u8 0, .int .u8 0, .int .u8 0, .int .u8 0, .int .u8 0, .int .u8 0, .int .u8 0, .int .u8 0, .int .u8 0, .bool false, .int .u8 0, .int .u8 0, .int .u8 0, .int .u8 0, .int .u8 0, .int .u8 0, .int .u8 0, .int .u8 0, .int .u8 0, .int .u8 0, .int .u8 0, .int .u8 0, .int .u8 0, .int .u8 0, .int .u8 0, .int .u8 0]) Yh.out Zh.out Ah.out ?_); (case sg6 => rfl); (case so6 => rfl); (case sx6 => rfl); (case sy6 => rfl)))
      have qNKN10 : V1.heap.size < V7.heap.size := NK.out.lt
      intro V8 hA hF hB
      have hy := ((Below.refl V7.heap.size V7).alloc (Nat.le_refl _) (.cells #[Value.int .i64 0, .int .u8 0, .bool false, .int .u8 0, .int .u8 0, .int .u8 0, .int .u8 0, .int .u8 0, .int .u8 0, .int .u8 0, .int .u8 0, .int .u8 0, .int .u8 0, .int .u8 0, .int .u8 0, .int .u8 0, .int .u8 0, .int .u8 0, .int .u8 0, .bool false, .int .u8 0, .int .u8 0, .int .u8 0, .int .u8 0, .int .u8 0, .int .u8 0, .int .u8 0, .int .u8 0, .int .u8 0, .int .u8 0, .int .u8 0, .int .u8 0, .int .u8 0, .int .u8 0, .int .u8 0, .int .u8 0] 29)).trans (hB _ (Nat.le_refl _))
      replace K := Lib.hid (K.out.trans (hy.mono K.out.size))
      replace NK := Lib.hid (NK.out.below hy NK.out.lt)
      replace R := Lib.hid (R.out.below hy)
      have N10 := Lib.hid hA
      clear hA hF hB hy
      go_wp2_with fail
      refine (awake_any _).mono ?_
      rintro e V9 ⟨rfl, hy⟩
      replace K := Lib.hid (K.out.trans (hy.mono K.out.size))
      replace NK := Lib.hid (NK.out.below hy NK.out.lt)
      replace R := Lib.hid (R.out.below hy)
      replace N10 := Lib.hid (N10.out.below hy N10.out.lt)
      clear hy
      go_wp2
      go_ret
      exact ⟨rfl, K.out⟩
    · have HF0 : Hid (f ≠ 0) := hf0
      have hd0 : ((f : Int) == 0) = false := by rw [beq_eq_false_iff_ne]; omega
      have CR2 := CR.out _ _ Z R.out hb
      rw [FF.out, show hd6 Z = s0 from by unfold hd6; rw [if_neg (by rw [FF.out]; exact HF0.out)]] at CR2
      replace CR2 := Lib.hid CR2
      clear CR hf0
      go_wp2_with fail
      refine (CR2.out).mono ?_
      rintro e V7 ⟨rfl, hy⟩
      replace K := Lib.hid (K.out.trans (hy.mono K.out.size))
      replace NK := Lib.hid (NK.out.below hy NK.out.lt)
      replace R := Lib.hid (R.out.below hy)
      clear hy
      go_wp2_with (((with_reducible refine wpList_blk_store (op := ⟨none, .store 29 (.tmp 10) (.tmp 59), _, _, _, _⟩) ?sg7 29 (.tmp 10) (.tmp 59) ?so7 (V7.heap.size) s0 ?sx7 ?sy7 (Blk.new V7 29 #[Value.int .i64 0, .int .u8 0, .bool false, .int .u8 0, .int .u8 0, .int .u8 0, .int .u8 0, .int .u8 0, .int .u8 0, .int .u8 0, .int .u8 0, .int .u8 0, .int .u8 0, .int .u8 0, .int .u8 0, .int .u8 0, .int .u8 0, .int .u8 0, .int .u8 0, .bool false, .int .u8 0, .int .u8 0, .int .u8 0, .int .u8 0, .int .u8 0, .int .u8 0, .int .u8 0, .int .u8 0, .int .u8 0, .int .u8 0, .int .u8 0, .int .u8 0, .int .u8 0, .int .u8 0, .int .u8 0, .int .u8 0]) Y0.out Z0.out A0.out ?_); (case sg7 => rfl); (case so7 => rfl); (case sx7 => rfl); (case sy7 => rfl)))
      have qNKN10 : V1.heap.size < V7.heap.size := NK.out.lt
      intro V8 hA hF hB
      have hy := ((Below.refl V7.heap.size V7).alloc (Nat.le_refl _) (.cells #[Value.int .i64 0, .int .u8 0, .bool false, .int .u8 0, .int .u8 0, .int .u8 0, .int .u8 0, .int .u8 0, .int .u8 0, .int .u8 0, .int .u8 0, .int .u8 0, .int .u8 0, .int .u8 0, .int .u8 0, .int .u8 0, .int .u8 0, .int .u8 0, .int .u8 0, .bool false, .int .u8 0, .int .u8 0, .int .u8 0, .int .u8 0, .int .u8 0, .int .u8 0, .int .u8 0, .int .u8 0, .int .u8 0, .int .u8 0, .int .u8 0, .int .u8 0, .int .u8 0, .int .u8 0, .int .u8 0, .int .u8 0] 29)).trans (hB _ (Nat.le_refl _))
      replace K := Lib.hid (K.out.trans (hy.mono K.out.size))
      replace NK := Lib.hid (NK.out.below hy NK.out.lt)
      replace R := Lib.hid (R.out.below hy)
      have N10 := Lib.hid hA
      clear hA hF hB hy
      have QH := QS0.out
      have L8 : (loadVar 29 ⟨V7.heap.size, 0, none⟩).run Try.prog V8 = .ok (.agg s0) V8 := run_blk_load (P := Try.prog) 29 (V7.heap.size) _ N10.out Try.underlying29 rfl Z0.out
      replace L8 := Lib.hid L8
      have L9 : (loadVar 25 ⟨V1.heap.size, 18, none⟩).run Try.prog V8 = .ok (.agg D) V8 := by have h := run_part_load (P := Try.prog) 25 18 D.toList _ NK.out kp2.out Try.underlying25 rfl ID.out; rwa [Array.toArray_toList] at h
      replace L9 := Lib.hid L9
      go_wp2_with (first | ((with_reducible refine wpList_load_want (op := ⟨some 68, .load 29 (.tmp 10), _, _, _, _⟩) ?wg8 29 (.tmp 10) ?wo8 ⟨V7.heap.size, 0, none⟩ ?wx8 (.agg s0) L8.out ?_); (case wg8 => rfl); (case wo8 => rfl); (case wx8 => rfl)) | ((with_reducible refine wpList_load_want (op := ⟨some 74, .load 25 (.tmp 73), _, _, _, _⟩) ?wg9 25 (.tmp 73) ?wo9 ⟨V1.heap.size, 18, none⟩ ?wx9 (.agg D) L9.out ?_); (case wg9 => rfl); (case wo9 => rfl); (case wx9 => rfl)))
      clear L8 L9
      refine (CD.out _ _ Z R.out hb (by rw [FF.out]; exact HF0.out)).mono ?_
      rintro e V9 ⟨rfl, hy⟩
      replace K := Lib.hid (K.out.trans (hy.mono K.out.size))
      replace NK := Lib.hid (NK.out.below hy NK.out.lt)
      replace R := Lib.hid (R.out.below hy)
      replace N10 := Lib.hid (N10.out.below hy N10.out.lt)
      clear hy
      go_wp2_with fail
      refine (awake_any _).mono ?_
      rintro e V10 ⟨rfl, hy⟩
      replace K := Lib.hid (K.out.trans (hy.mono K.out.size))
      replace NK := Lib.hid (NK.out.below hy NK.out.lt)
      replace R := Lib.hid (R.out.below hy)
      replace N10 := Lib.hid (N10.out.below hy N10.out.lt)
      clear hy
      go_wp2
      go_ret
      exact ⟨rfl, K.out⟩
end Go.Proofs.Ytnfanenaighflaa

