/- Texts that the walks of this seat lean on, put together: each has its own remark below. -/
import Derived.LoopTactic
import Derived.Test.YthjaolngfjfldaaM09
import Derived.Test.YthjaolngfjfldaaM12
import Derived.Test.YthjaolngfjfldaaM13
import Derived.Test.YthjaolngfjfldaaM14

/- The walk of FourOptions. -/
namespace Go.Proofs.Ythjaolngfjfldaa
open Go.RowKit

/-- The header at a round's head. -/
def OpRel (v : Nat) (H : List Nat) (base : Nat) (W0 : World) (h i : Value) (wr : World) : Prop :=
  ∃ j g cap : Nat, j ≤ 4 * v ∧ i = .int .i64 (j : Int) ∧ h = .slice (some ⟨g, 0, none⟩) (20 + j) cap ∧ wr.ownsRow base 5 1 h (20 + j) (nus .u8 (H ++ List.replicate j 1)) ∧ Below base W0 wr

set_option maxRecDepth 100000 in
set_option maxHeartbeats 4000000 in
theorem options_walk (n wo m : Int) (a : Option Addr) (L cap : Nat) (zs : List Nat) (w : World) (hr : Rd w (.slice a L cap) (nus .u8 zs)) (hL : zs.length = L) (hna : a = none → cap = 0) (hb : ∀ c ∈ zs, c < 256) :
    Calls Try.prog 6 #[.int .i64 n, .int .i64 wo, .slice a L cap, .int .i64 m] w fun e w' => e = .returned (.bool true) ∧ Below w.heap.size w w' := by
  have HR := Lib.hid hr
  have hLm : L ≤ cap ∧ cap ≤ maxLen := by obtain ⟨a', c', e, h1, h2⟩ := rd_shape hr; cases e; omega
  by_cases h300 : 300 < L
  · unfold maxLen at hLm
    clear hr
    go_enter Try.func6, Try.ntmps6
    go_wp2_with fail
    refine (awake_any _).mono ?_
    rintro e w1 ⟨rfl, hy⟩
    go_wp2
    go_ret
    exact ⟨rfl, hy⟩
  obtain ⟨u, hu⟩ : ∃ u : Nat, u = (n % 1073741824).toNat := ⟨_, rfl⟩
  have hun : n % 1073741824 = (u : Int) := by omega
  have hul : u < 1073741824 := by omega
  obtain ⟨v, hv⟩ : ∃ v : Nat, v = (wo % 11).toNat := ⟨_, rfl⟩
  have hvm : wo % 11 = (v : Int) := by omega
  have hvl : v ≤ 10 := by omega
  obtain ⟨q, hq⟩ : ∃ q : Nat, q = (m % 200).toNat := ⟨_, rfl⟩
  have hqm : m % 200 = (q : Int) := by omega
  have hql : q < 200 := by omega
  obtain ⟨pt, hpt⟩ : ∃ pt : Nat, pt = 8000 + (m % 1000).toNat := ⟨_, rfl⟩
  have hpm : m % 1000 = (pt : Int) - 8000 := by omega
  have hdB : (dB q).length = 4 := rfl
  have bS : ∀ c ∈ kS u, c < 256 := by simp [kS]; omega
  have bT : ∀ c ∈ dB q, c < 256 := by simp [dB]; omega
  obtain ⟨x, y, hx, hy0, hM⟩ := oh_mk u (4 * v + L) (by omega)
  obtain ⟨s1, hs1⟩ : ∃ s, s = u / 65536 % 256 := ⟨_, rfl⟩
  obtain ⟨s2, hs2⟩ : ∃ s, s = u / 256 % 256 := ⟨_, rfl⟩
  obtain ⟨s3, hs3⟩ : ∃ s, s = u % 256 := ⟨_, rfl⟩
  obtain ⟨l2, hl2⟩ : ∃ l, l = (20 + (4 * v + L)) / 256 := ⟨_, rfl⟩
  obtain ⟨l3, hl3⟩ : ∃ l, l = (20 + (4 * v + L)) % 256 := ⟨_, rfl⟩
  have b1 : s1 < 256 := by omega
  have b2 : s2 < 256 := by omega
  have b3 : s3 < 256 := by omega
  have b4 : l2 < 256 := by omega
  have b5 : l3 < 256 := by omega
  have hl : l2 * 256 + l3 = 20 + 4 * v + L := by omega
  rw [← hs1, ← hs2, ← hs3, ← hl2, ← hl3] at hM
  obtain ⟨Sa, hSa⟩ : ∃ x, x = a4 (kS u) := ⟨_, rfl⟩
  obtain ⟨Da, hDa⟩ : ∃ x, x = a4 kD := ⟨_, rfl⟩
  obtain ⟨Ta, hTa⟩ : ∃ x, x = a4 (dB q) := ⟨_, rfl⟩
  have zS : Sa.size = 17 := by rw [hSa]; rfl
  have zD : Da.size = 17 := by rw [hDa]; rfl
  have zT : Ta.size = 17 := by rw [hTa]; rfl
  obtain ⟨kc, hkc⟩ : ∃ kc, kc = kcells 6 Sa Da (1000 + u % 50000) 80 := ⟨_, rfl⟩
  have CK := Lib.hid (fun W => show Calls Try.prog 16 #[.int .i64 n, .bool false, .bool false] W fun e w' => e = .returned (.agg kc) ∧ Below W.heap.size W w' from by rw [hkc, hSa, hDa]; exact key_tcp n false u _ W hun hul rfl)
  have CM := Lib.hid (show ∀ W, Calls Try.prog 12 #[.agg Sa, .agg Da, .int .u8 6, .int .i64 ((4 * v + L : Nat) : Int)] W fun e w' => ∃ x, e = .returned (.tuple #[x, .bool true]) ∧ w'.ownsRow W.heap.size 5 1 x 20 (nus .u8 (mk4 (kS u) kD 6 (4 * v + L))) ∧ Below W.heap.size W w' from fun W => by rw [hSa, hDa]; exact rmake_yes (kS u ++ List.replicate 12 0) (kD ++ List.replicate 12 0) 6 (4 * v + L) W rfl rfl (by intro c hc; rcases List.mem_append.1 hc with h | h; exact bS c h; have := (List.mem_replicate.1 h).2; omega) (by decide) (by omega) (by omega))
  have CP := Lib.hid (fun W => dip_lit m q pt W hpm hqm (by omega) (by omega) hql)
  have CN := Lib.hid (fun W => round_any wo 11 W (by omega) (by omega))
  rw [hvm] at CN
  have CC := Lib.hid (show ∀ W z B, Rd W z (nus .u8 B) → (∀ c ∈ B, c < 256) → ff B = 0 → B.length ≤ 1000 → Calls Try.prog 14 #[z, .agg Ta] W fun e w' => ∃ x, e = .returned x ∧ w'.ownsRow W.heap.size 5 1 x B.length (nus .u8 (dst4 B (dB q))) ∧ Below W.heap.size W w' from fun W z B h hB hf hlB => by rw [hTa]; exact dest_yes z B (dB q ++ List.replicate 12 0) W h hB hf (by omega) rfl (by intro c hc; rcases List.mem_append.1 hc with h | h; exact bT c h; have := (List.mem_replicate.1 h).2; omega))
  have HL : Hid ((.agg #[.bool false, .int .u8 172, .int .u8 16, .int .u8 0, .int .u8 ((1 + q : Nat) : Int), .int .u8 0, .int .u8 0, .int .u8 0, .int .u8 0, .int .u8 0, .int .u8 0, .int .u8 0, .int .u8 0, .int .u8 0, .int .u8 0, .int .u8 0, .int .u8 0] : Value) = .agg Ta) := by
    show _ = _
    rw [hTa]; rfl
  have QT := Lib.hid (a4_equal _ Ta hTa (by simp [hdB]) bT)
  have kp1 := Lib.hid (show (kc.toList.drop 1).take Sa.toList.length = Sa.toList by rw [hkc]; exact kcells_src _ _ _ _ _)
  have kp2 := Lib.hid (show (kc.toList.drop 18).take Da.toList.length = Da.toList by rw [hkc]; exact kcells_dst _ _ _ _ _ zS)
  have IS := Lib.hid (i24.trans (congrArg some (show (17 : Nat) = Sa.toList.length by simp [zS])))
  have ID := Lib.hid (i24.trans (congrArg some (show (17 : Nat) = Da.toList.length by simp [zD])))
  have IT := Lib.hid (i24.trans (congrArg some (show (17 : Nat) = Ta.toList.length by simp [zT])))
  have zk : kc.size = 37 := by rw [hkc]; exact kcells_size _ _ _ _ _ zS zD
  have AS : Sa.all (·.oneCell') = true := by rw [hSa]; exact a4_all _
  have AD : Da.all (·.oneCell') = true := by rw [hDa]; exact a4_all _
  have AT := Lib.hid (show Ta.all (·.oneCell') = true by rw [hTa]; exact a4_all _)
  have Ak := Lib.hid (show kc.all (·.oneCell') = true by rw [hkc]; exact kcells_all _ _ _ _ _ AS AD)
  have Zk := Lib.hid (i42.trans (congrArg some zk.symm))
  have Yk : Hid (kc.size = Array.size (#[Value.int .u8 0, .bool false, .int .u8 0, .int .u8 0, .int .u8 0, .int .u8 0, .int .u8 0, .int .u8 0, .int .u8 0, .int .u8 0, .int .u8 0, .int .u8 0, .int .u8 0, .int .u8 0, .int .u8 0, .int .u8 0, .int .u8 0, .int .u8 0, .bool false, .int .u8 0, .int .u8 0, .int .u8 0, .int .u8 0, .int .u8 0, .int .u8 0, .int .u8 0, .int .u8 0, .int .u8 0, .int .u8 0, .int .u8 0, .int .u8 0, .int .u8 0, .int .u8 0, .int .u8 0, .int .u8 0, .int .u16 0, .int .u16 0] : Array Value)) := zk
  have ZT := Lib.hid (i24.trans (congrArg some zT.symm))
  have YT : Hid (Ta.size = Array.size (#[Value.bool false, .int .u8 0, .int .u8 0, .int .u8 0, .int .u8 0, .int .u8 0, .int .u8 0, .int .u8 0, .int .u8 0, .int .u8 0, .int .u8 0, .int .u8 0, .int .u8 0, .int .u8 0, .int .u8 0, .int .u8 0, .int .u8 0] : Array Value)) := zT
  have HTA := Lib.hid hTa
  have QZT := Lib.hid zT
  have BT := Lib.hid bT
  have BZ := Lib.hid hb
  have LZ := Lib.hid hL
  rw [hM] at CM
  have e4v : IntKind.i64.wrap (4 * (v : Int)) = 4 * (v : Int) := by rw [IntKind.wrap_i64]; omega
  have HM4 := Lib.hid e4v
  have HM20 := Lib.hid (show IntKind.i64.wrap (20 + 4 * (v : Int)) = 20 + 4 * (v : Int) by rw [IntKind.wrap_i64]; omega)
  clear hr hb hL hu hun hul hv hvm hq hqm hpt hpm bS bT hs1 hs2 hs3 hl2 hl3 hM hSa hDa hTa zS zD zT hkc zk AS AD hdB e4v
  have hdl : decide ((300 : Int) < (L : Int)) = false := decide_eq_false (by omega)
  unfold maxLen at hLm
  go_enter Try.func6, Try.ntmps6
  go_wp2_with fail
  refine (CN.out w).mono ?_; rintro e w0 ⟨rfl, rfl⟩
  go_wp2_with fail
  refine (CK.out w).mono ?_; rintro e W1 ⟨rfl, hy⟩
  have K1 := Lib.hid hy
  clear hy CK CN
  go_wp2_with (((with_reducible refine wpList_blk_store (op := ⟨none, .store 42 (.tmp 10) (.tmp 29), _, _, _, _⟩) ?sg1 42 (.tmp 10) (.tmp 29) ?so1 (W1.heap.size) kc ?sx1 ?sy1 (Blk.new W1 42 #[Value.int .u8 0, .bool false, .int .u8 0, .int .u8 0, .int .u8 0, .int .u8 0, .int .u8 0, .int .u8 0, .int .u8 0, .int .u8 0, .int .u8 0, .int .u8 0, .int .u8 0, .int .u8 0, .int .u8 0, .int .u8 0, .int .u8 0, .int .u8 0, .bool false, .int .u8 0, .int .u8 0, .int .u8 0, .int .u8 0, .int .u8 0, .int .u8 0, .int .u8 0, .int .u8 0, .int .u8 0, .int .u8 0, .int .u8 0, .int .u8 0, .int .u8 0, .int .u8 0, .int .u8 0, .int .u8 0, .int .u16 0, .int .u16 0]) Yk.out Zk.out Ak.out ?_); (case sg1 => rfl); (case so1 => rfl); (case sx1 => rfl); (case sy1 => rfl)))
  intro W2 hA hF hB
  have K2 := Lib.hid ((K1.out.alloc K1.out.size (.cells #[Value.int .u8 0, .bool false, .int .u8 0, .int .u8 0, .int .u8 0, .int .u8 0, .int .u8 0, .int .u8 0, .int .u8 0, .int .u8 0, .int .u8 0, .int .u8 0, .int .u8 0, .int .u8 0, .int .u8 0, .int .u8 0, .int .u8 0, .int .u8 0, .bool false, .int .u8 0, .int .u8 0, .int .u8 0, .int .u8 0, .int .u8 0, .int .u8 0, .int .u8 0, .int .u8 0, .int .u8 0, .int .u8 0, .int .u8 0, .int .u8 0, .int .u8 0, .int .u8 0, .int .u8 0, .int .u8 0, .int .u16 0, .int .u16 0] 42)).trans (hB _ K1.out.size))
  have l1 := Lib.hid (run_part_load (P := Try.prog) 25 1 Sa.toList _ hA kp1.out Try.underlying25 rfl IS.out)
  have l2' := Lib.hid (run_part_load (P := Try.prog) 25 18 Da.toList _ hA kp2.out Try.underlying25 rfl ID.out)
  rw [Array.toArray_toList] at l1 l2'
  clear hA hF hB K1
  have hsum : 4 * (v : Int) + (L : Int) = ((4 * v + L : Nat) : Int) := by omega
  have HSUM := Lib.hid hsum
  clear hsum
  go_wp2_with (first | ((with_reducible refine wpList_load_want (op := ⟨some 32, .load 25 (.tmp 31), _, _, _, _⟩) ?wg2 25 (.tmp 31) ?wo2 ⟨W1.heap.size, 1, none⟩ ?wx2 (.agg Sa) l1.out ?_); (case wg2 => rfl); (case wo2 => rfl); (case wx2 => rfl)) | ((with_reducible refine wpList_load_want (op := ⟨some 34, .load 25 (.tmp 33), _, _, _, _⟩) ?wg3 25 (.tmp 33) ?wo3 ⟨W1.heap.size, 18, none⟩ ?wx3 (.agg Da) l2'.out ?_); (case wg3 => rfl); (case wo3 => rfl); (case wx3 => rfl)))
  rw [HSUM.out]
  refine (CM.out W2).mono ?_
  rintro e W3 ⟨xv, rfl, ox, hy⟩
  obtain ⟨gx, cx, rfl, hcx, hcxm, hgx, -⟩ := own_at ox (by omega)
  have K3 := Lib.hid (K2.out.trans (hy.mono K2.out.size))
  have hW2 : w.heap.size ≤ W2.heap.size := K2.out.size
  have c0 : W3.cell? ⟨gx, 0, none⟩ = some (.int .u8 69) := (own_cells ox 0 (by omega)).1
  have f0 : W3.frozen? ⟨gx, 0, none⟩ = false := (own_cells ox 0 (by omega)).2
  have p0 := own_put ox 0 (69 + v)
  have g3 := hy.size
  have hgw : w.heap.size ≤ gx := by omega
  have h0 := K3.out.grown p0.2 K3.out.size (fun k e => by cases e; exact hgw)
  rw [oh_set0] at p0
  have e69 : IntKind.u8.wrap (69 + (v : Int)) = ((69 + v : Nat) : Int) := by rw [IntKind.wrap_u8]; omega
  have O4 := Lib.hid p0.1
  have K4 := Lib.hid h0
  clear ox hy K2 K3 l1 l2' CM p0 h0
  obtain ⟨v69, hv69⟩ : ∃ x : Nat, x = 69 + v := ⟨_, rfl⟩
  rw [← hv69] at e69 O4 K4
  clear hv69
  go_wp2_with fail
  generalize W3.setCell ⟨gx, 0, none⟩ (.int .u8 (v69 : Int)) = W4 at O4 K4 ⊢
  have hgbase : W2.heap.size ≤ W4.heap.size := Nat.le_of_lt (Nat.lt_of_le_of_lt hgx (own_in O4.out))
  clear c0 f0 e69
  go_loopw [11, 13] (fun h i wr => OpRel v (oh v l2 l3 x y s1 s2 s3) W2.heap.size W4 h i wr) (fun _ i _ => 4 * v - (RowKit.intOf i).toNat)
  case atStart => exact ⟨0, gx, cx, by omega, rfl, rfl, by simpa using O4.out, Below.refl _ _⟩
  case round =>
    obtain ⟨j, g, cp, hj, rfl, rfl, ho, hk⟩ := hrel
    have hbs := hk.size
    by_cases hlt : j < 4 * v
    · have hlt' : (j : Int) < 4 * (v : Int) := by omega
      have b8 := (Below.refl wr.heap.size wr).alloc (Nat.le_refl _) (.cells (nus .u8 [1]).toArray 5)
      have R8 := Lib.hid (rd_lit wr .u8 5 [1] 1 (0, 0) rfl (by simp [maxLen]))
      have O8 := Lib.hid (row_under ho b8)
      have L8 := Lib.hid (hk.trans (b8.mono (Nat.le_trans hgbase hbs)))
      clear b8 ho hk
      go_wp2_with (at_builtin; refine wpList_app rfl (.tmp 56) (.tmp 57) rfl W2.heap.size _ (20 + j) _ rfl O8.out (some _) 1 1 [1] rfl R8.out ?c1 ?c2 ?c3 ?c4)
      case c1 => intro e; cases e
      case c2 => omega
      case c3 => exact Nat.le_trans hgbase L8.out.size
      intro v9 W9 o9 g9
      have L9 := Lib.hid (L8.out.grown g9 (Nat.le_trans hgbase L8.out.size) (fun k e => (O8.out.lt k e).1))
      rw [show List.replicate j 1 ++ [1] = List.replicate (j + 1) 1 from List.replicate_succ'.symm] at o9
      obtain ⟨g', cp', rfl, -, -, -, -⟩ := own_at o9 (by omega)
      have O9 := Lib.hid o9
      clear o9 g9 R8 O8 L8
      go_wp2
      go_roundw
      case rel => exact ⟨j + 1, g', cp', by omega, by go_num, rfl, O9.out, L9.out⟩
      case measure => simp [RowKit.intOf]; omega
    · have hge : ¬ (j : Int) < 4 * (v : Int) := by omega
      obtain rfl : j = 4 * v := by omega
      have O5 := Lib.hid ho
      have K5 := Lib.hid (K4.out.trans (hk.mono hW2))
      clear ho hk O4 K4 hlt hj hbs
      obtain ⟨N0, hN0⟩ : ∃ N0, N0 = 20 + 4 * v := ⟨_, rfl⟩
      have HM20' : Hid (IntKind.i64.wrap (20 + 4 * (v : Int)) = (N0 : Int)) := by
        show _ = _
        rw [HM20.out, hN0]; omega
      have O5 := Lib.hid (show World.ownsRow wr W2.heap.size 5 1 (.slice (some ⟨g, 0, none⟩) N0 cp) N0 (nus .u8 (oH v l2 l3 s1 s2 s3 x y)) from by rw [hN0]; exact O5.out)
      rw [← hN0]
      have hg5 : w.heap.size ≤ g := by have := O5.out.lt g rfl; omega
      have hgb : W2.heap.size ≤ g := (O5.out.lt g rfl).1
      have hgn : g < wr.heap.size := (O5.out.lt g rfl).2
      have h20 : 20 ≤ N0 := by omega
      have h60 : N0 ≤ 60 := by omega
      have HN0 := Lib.hid hN0
      clear hN0 HM20
      have c10 : wr.cell? ⟨g, 10, none⟩ = some (.int .u8 (x : Int)) := (own_cells O5.out 10 (by omega)).1
      have f10 : wr.frozen? ⟨g, 10, none⟩ = false := (own_cells O5.out 10 (by omega)).2
      have c11 : wr.cell? ⟨g, 11, none⟩ = some (.int .u8 (y : Int)) := (own_cells O5.out 11 (by omega)).1
      have f11 : wr.frozen? ⟨g, 11, none⟩ = false := (own_cells O5.out 11 (by omega)).2
      have p0 := own_put O5.out 10 0
      have p1 := own_put p0.1 11 0
      have h0 := K5.out.grown p0.2 K5.out.size (fun k e => by cases e; exact hg5)
      have h1 := h0.grown p1.2 h0.size (fun k e => by cases e; exact hg5)
      rw [oH_set] at p1
      have K6 := Lib.hid (show Below w.heap.size w ((wr.setCell ⟨g, 10, none⟩ (.int .u8 0)).setCell ⟨g, 11, none⟩ (.int .u8 0)) from h1)
      have O6 := Lib.hid (show World.ownsRow ((wr.setCell ⟨g, 10, none⟩ (.int .u8 0)).setCell ⟨g, 11, none⟩ (.int .u8 0)) W2.heap.size 5 1 (.slice (some ⟨g, 0, none⟩) N0 cp) N0 (nus .u8 (oH v l2 l3 s1 s2 s3 0 0)) from p1.1)
      clear p0 p1 h0 h1 K5 O5
      go_wp2_with fail
      generalize ((wr.setCell ⟨g, 10, none⟩ (.int .u8 0)).setCell ⟨g, 11, none⟩ (.int .u8 0)) = W6 at K6 O6 ⊢
      clear c10 f10 c11 f11 hgn
      refine (rcheck_any _ (oH v l2 l3 s1 s2 s3 0 0) _ (Rd.own O6.out) (by rw [oH_len]; omega) (oH_lt v l2 l3 s1 s2 s3 0 0 hvl b4 b5 (by omega) (by omega) b1 b2 b3)).mono ?_
      rintro e w6 ⟨rfl, rfl⟩
      obtain ⟨c, hc⟩ : ∃ c, c = ck (oH v l2 l3 s1 s2 s3 0 0) := ⟨_, rfl⟩
      have hcl : c < 65536 := by have := ck_le (oH v l2 l3 s1 s2 s3 0 0); omega
      have hck := oH_ck v l2 l3 s1 s2 s3 c hc
      rw [← hc]
      clear hc
      obtain ⟨d1, hd1⟩ : ∃ d, d = c / 256 := ⟨_, rfl⟩
      obtain ⟨d2, hd2⟩ : ∃ d, d = c % 256 := ⟨_, rfl⟩
      rw [← hd1, ← hd2] at hck
      have e1 : IntKind.u8.wrap ((c : Int) / 256) = (d1 : Int) := by rw [IntKind.wrap_u8]; omega
      have e2 : IntKind.u8.wrap (c : Int) = (d2 : Int) := by rw [IntKind.wrap_u8]; omega
      have hd1l : d1 < 256 := by omega
      have hd2l : d2 < 256 := by omega
      clear hd1 hd2
      have c10 : W6.cell? ⟨g, 10, none⟩ = some (.int .u8 0) := (own_cells O6.out 10 (by omega)).1
      have f10 : W6.frozen? ⟨g, 10, none⟩ = false := (own_cells O6.out 10 (by omega)).2
      have c11 : W6.cell? ⟨g, 11, none⟩ = some (.int .u8 0) := (own_cells O6.out 11 (by omega)).1
      have f11 : W6.frozen? ⟨g, 11, none⟩ = false := (own_cells O6.out 11 (by omega)).2
      have p0 := own_put O6.out 10 d1
      have p1 := own_put p0.1 11 d2
      have h0 := K6.out.grown p0.2 K6.out.size (fun k e => by cases e; exact hg5)
      have h1 := h0.grown p1.2 h0.size (fun k e => by cases e; exact hg5)
      rw [oH_set] at p1
      have K7 := Lib.hid (show Below w.heap.size w ((W6.setCell ⟨g, 10, none⟩ (.int .u8 (d1 : Int))).setCell ⟨g, 11, none⟩ (.int .u8 (d2 : Int))) from h1)
      have O7 := Lib.hid (show World.ownsRow ((W6.setCell ⟨g, 10, none⟩ (.int .u8 (d1 : Int))).setCell ⟨g, 11, none⟩ (.int .u8 (d2 : Int))) W2.heap.size 5 1 (.slice (some ⟨g, 0, none⟩) N0 cp) N0 (nus .u8 (oH v l2 l3 s1 s2 s3 d1 d2)) from p1.1)
      have HCK := Lib.hid hck
      clear p0 p1 h0 h1 K6 O6 hck
      go_upto_region 16 with fail
      generalize ((W6.setCell ⟨g, 10, none⟩ (.int .u8 (d1 : Int))).setCell ⟨g, 11, none⟩ (.int .u8 (d2 : Int))) = W7 at K7 O7 ⊢
      clear c10 f10 c11 f11 e1 e2
      obtain ⟨H, hH⟩ : ∃ H, H = oH v l2 l3 s1 s2 s3 d1 d2 := ⟨_, rfl⟩
      rw [← hH] at O7
      have HH := Lib.hid hH
      clear hH
      have b7 := (Below.refl W7.heap.size W7).alloc (Nat.le_refl _) (.cells #[] 5)
      have E7 := Lib.hid (own_none W7 5)
      have L7 := Lib.hid b7
      have R7 := Lib.hid ((Rd.own O7.out).below b7)
      clear b7 O7
      go_wp2_with (at_builtin; refine wpList_app rfl (.tmp 74) (.tmp 75) rfl W7.heap.size _ 0 [] rfl E7.out (some _) N0 cp H rfl R7.out ?f1 ?f2 ?f3 ?f4)
      case f1 => intro e; cases e
      case f2 => omega
      case f3 => exact L7.out.size
      intro v8 W8 o8 g8
      have L8 := Lib.hid (L7.out.grown g8 L7.out.size (fun k e => (E7.out.lt k e).1))
      have O8 := Lib.hid (show W8.ownsRow W7.heap.size 5 1 v8 N0 (nus .u8 H) from by simpa using o8)
      have R8 := Lib.hid ((HR.out.below K7.out).below L8.out)
      clear o8 g8 E7 L7 R7
      go_wp2_with (at_builtin; refine wpList_app rfl (.tmp 76) (.tmp 77) rfl W7.heap.size _ N0 H rfl O8.out a L cap zs rfl R8.out hna ?g2 ?g3 ?g4)
      case g2 => omega
      case g3 => exact L8.out.size
      intro v9 W9 o9 g9
      have L9 := Lib.hid (L8.out.grown g9 L8.out.size (fun k e => (O8.out.lt k e).1))
      obtain ⟨N, hN⟩ : ∃ N, N = N0 + L := ⟨_, rfl⟩
      rw [← hN] at o9
      obtain ⟨B, hB⟩ : ∃ B, B = H ++ zs := ⟨_, rfl⟩
      rw [← hB] at o9
      obtain ⟨gb, cb, rfl, hcb, hcbm, -, -⟩ := own_at o9 (by omega)
      have B9 := Lib.hid (Rd.own o9)
      have K9 := Lib.hid (K7.out.trans (L9.out.mono K7.out.size))
      obtain ⟨r1, r2, r3, r4, r5⟩ := oH_read v l2 l3 s1 s2 s3 L zs d1 d2 B (by rw [hB, HH.out]) hvl LZ.out hl HCK.out
      have bB : ∀ c ∈ B, c < 256 := by
        rw [hB, HH.out]; intro c hc
        rcases List.mem_append.1 hc with h | h
        · exact oH_lt v l2 l3 s1 s2 s3 d1 d2 hvl b4 b5 hd1l hd2l b1 b2 b3 c h
        · exact BZ.out c h
      rw [show 20 + 4 * v + L = N by have := HN0.out; omega] at r3 r4
      rw [← HN0.out] at r2
      have BL := Lib.hid r4
      have BF := Lib.hid r1
      have BBB := Lib.hid bB
      obtain ⟨Ss, hSs⟩ : ∃ S, S = a4 ((B.drop 12).take 4) := ⟨_, rfl⟩
      obtain ⟨Dd, hDd⟩ : ∃ S, S = a4 ((B.drop 16).take 4) := ⟨_, rfl⟩
      have zSs : Ss.size = 17 := by rw [hSs]; exact a4_size _ (by simp; omega)
      have zDd : Dd.size = 17 := by rw [hDd]; exact a4_size _ (by simp; omega)
      have aSs : Ss.all (·.oneCell') = true := by rw [hSs]; exact a4_all _
      have aDd : Dd.all (·.oneCell') = true := by rw [hDd]; exact a4_all _
      obtain ⟨hb1, hhb⟩ : ∃ c, c = hcells N0 N 6 Ss Dd := ⟨_, rfl⟩
      obtain ⟨hc1, hhc⟩ : ∃ c, c = hcells N0 N 6 Ss Ta := ⟨_, rfl⟩
      have hdb : hd B = hb1 := by unfold hd; rw [if_pos r1, r2, r3, r5, ← hSs, ← hDd, hhb]
      have hdB4 : (dB q).length = 4 := rfl
      obtain ⟨C, hC⟩ : ∃ C, C = dst4 B (dB q) := ⟨_, rfl⟩
      have t1 : ff C = 0 := by rw [hC]; exact dst_ff r1 hdB4 bB
      have t2 : hd C = hc1 := by rw [hC, hd_dst B (dB q) r1 hdB4 bB, r2, r3, r5, ← hSs, ← HTA.out, hhc]
      have t3 : C.length = N := by rw [hC, dst_length r1 hdB4, r4]
      have bC : ∀ c ∈ C, c < 256 := by rw [hC]; exact dst_lt bB BT.out
      have t6 : C.drop 20 = B.drop 20 := by rw [hC]; exact dst_drop r1 hdB4 20 (by omega)
      have CR := Lib.hid (show ∀ W z, Rd W z (nus .u8 B) → Calls Try.prog 9 #[z] W fun e w' => e = .returned (.tuple #[.agg hb1, .int .i64 0]) ∧ Below W.heap.size W w' from fun W z h => by have := read_any z B W h bB; rw [hdb, r1] at this; exact this)
      have CS := Lib.hid (show ∀ W z, Rd W z (nus .u8 C) → Calls Try.prog 9 #[z] W fun e w' => e = .returned (.tuple #[.agg hc1, .int .i64 0]) ∧ Below W.heap.size W w' from fun W z h => by have := read_any z C W h bC; rw [t2, t1] at this; exact this)
      have CE := Lib.hid (show ∀ W z, Rd W z (nus .u8 B) → Calls Try.prog 14 #[z, .agg Ta] W fun e w' => ∃ x, e = .returned x ∧ w'.ownsRow W.heap.size 5 1 x N (nus .u8 C) ∧ Below W.heap.size W w' from fun W z h => by have := CC.out W z B h bB r1 (by omega); rw [← hC, r4] at this; exact this)
      have zb : hb1.size = 37 := by rw [hhb]; exact hcells_size _ _ _ _ _ zSs zDd
      have zc : hc1.size = 37 := by rw [hhc]; exact hcells_size _ _ _ _ _ zSs QZT.out
      have Ab := Lib.hid (show hb1.all (·.oneCell') = true by rw [hhb]; exact hcells_all _ _ _ _ _ aSs aDd)
      have Ac := Lib.hid (show hc1.all (·.oneCell') = true by rw [hhc]; exact hcells_all _ _ _ _ _ aSs AT.out)
      have Zb := Lib.hid (i29.trans (congrArg some zb.symm))
      have Yb : Hid (hb1.size = Array.size (#[Value.int .i64 0, .int .i64 0, .int .u8 0, .bool false, .int .u8 0, .int .u8 0, .int .u8 0, .int .u8 0, .int .u8 0, .int .u8 0, .int .u8 0, .int .u8 0, .int .u8 0, .int .u8 0, .int .u8 0, .int .u8 0, .int .u8 0, .int .u8 0, .int .u8 0, .int .u8 0, .bool false, .int .u8 0, .int .u8 0, .int .u8 0, .int .u8 0, .int .u8 0, .int .u8 0, .int .u8 0, .int .u8 0, .int .u8 0, .int .u8 0, .int .u8 0, .int .u8 0, .int .u8 0, .int .u8 0, .int .u8 0, .int .u8 0] : Array Value)) := zb
      have Zc := Lib.hid (i29.trans (congrArg some zc.symm))
      have Yc : Hid (hc1.size = Array.size (#[Value.int .i64 0, .int .i64 0, .int .u8 0, .bool false, .int .u8 0, .int .u8 0, .int .u8 0, .int .u8 0, .int .u8 0, .int .u8 0, .int .u8 0, .int .u8 0, .int .u8 0, .int .u8 0, .int .u8 0, .int .u8 0, .int .u8 0, .int .u8 0, .int .u8 0, .int .u8 0, .bool false, .int .u8 0, .int .u8 0, .int .u8 0, .int .u8 0, .int .u8 0, .int .u8 0, .int .u8 0, .int .u8 0, .int .u8 0, .int .u8 0, .int .u8 0, .int .u8 0, .int .u8 0, .int .u8 0, .int .u8 0, .int .u8 0] : Array Value)) := zc
      have b0' := Lib.hid (show hb1[0]? = some (.int .i64 (N0 : Int)) by rw [hhb]; simp [hcells])
      have b1' := Lib.hid (show hb1[1]? = some (.int .i64 (N : Int)) by rw [hhb]; simp [hcells])
      have c0' := Lib.hid (show hc1[0]? = some (.int .i64 (N0 : Int)) by rw [hhc]; simp [hcells])
      have hp2 := Lib.hid (show (hc1.toList.drop 20).take Ta.toList.length = Ta.toList by rw [hhc]; exact hcells_dst _ _ _ _ _ zSs)
      have C6 := Lib.hid t6
      have CL := Lib.hid t3
      clear o9 g9 O8 R8 L8 L9 K7 r1 r2 r3 r4 r5 bB hSs hDd zSs zDd aSs aDd hhb hhc hdb hC t1 t2 t3 bC t6 zb zc hB CC hdB4
      have HNN := Lib.hid hN
      have hN20 : 20 ≤ N := by omega
      have hN4 : N ≤ 400 := by omega
      clear hN
      go_wp2_with fail
      refine (CR.out W9 _ B9.out).mono ?_; rintro e W10 ⟨rfl, hy⟩
      have K10 := Lib.hid (K9.out.trans (hy.mono K9.out.size))
      have B10 := Lib.hid (B9.out.below hy)
      clear hy K9 B9 CR
      go_wp2_with (((with_reducible refine wpList_blk_store (op := ⟨none, .store 29 (.tmp 16) (.tmp 82), _, _, _, _⟩) ?sg6 29 (.tmp 16) (.tmp 82) ?so6 (W10.heap.size) hb1 ?sx6 ?sy6 (Blk.new W10 29 #[Value.int .i64 0, .int .i64 0, .int .u8 0, .bool false, .int .u8 0, .int .u8 0, .int .u8 0, .int .u8 0, .int .u8 0, .int .u8 0, .int .u8 0, .int .u8 0, .int .u8 0, .int .u8 0, .int .u8 0, .int .u8 0, .int .u8 0, .int .u8 0, .int .u8 0, .int .u8 0, .bool false, .int .u8 0, .int .u8 0, .int .u8 0, .int .u8 0, .int .u8 0, .int .u8 0, .int .u8 0, .int .u8 0, .int .u8 0, .int .u8 0, .int .u8 0, .int .u8 0, .int .u8 0, .int .u8 0, .int .u8 0, .int .u8 0]) Yb.out Zb.out Ab.out ?_); (case sg6 => rfl); (case so6 => rfl); (case sx6 => rfl); (case sy6 => rfl)))
      intro W11 hA hF hB
      have b7 := ((Below.refl W10.heap.size W10).alloc (Nat.le_refl _) (.cells #[Value.int .i64 0, .int .i64 0, .int .u8 0, .bool false, .int .u8 0, .int .u8 0, .int .u8 0, .int .u8 0, .int .u8 0, .int .u8 0, .int .u8 0, .int .u8 0, .int .u8 0, .int .u8 0, .int .u8 0, .int .u8 0, .int .u8 0, .int .u8 0, .int .u8 0, .int .u8 0, .bool false, .int .u8 0, .int .u8 0, .int .u8 0, .int .u8 0, .int .u8 0, .int .u8 0, .int .u8 0, .int .u8 0, .int .u8 0, .int .u8 0, .int .u8 0, .int .u8 0, .int .u8 0, .int .u8 0, .int .u8 0, .int .u8 0] 29)).trans (hB _ (Nat.le_refl _))
      have K11 := Lib.hid (K10.out.trans (b7.mono K10.out.size))
      have B11 := Lib.hid (B10.out.below b7)
      have H11 := Lib.hid hA
      clear hA hF hB b7 K10 B10
      go_wp2_with fail
      refine (CP.out W11).mono ?_; rintro e W12 ⟨rfl, hy⟩
      have K12 := Lib.hid (K11.out.trans (hy.mono K11.out.size))
      have B12 := Lib.hid (B11.out.below hy)
      have H12 := Lib.hid (H11.out.below hy H11.out.lt)
      clear hy K11 B11 H11 CP
      go_wp2_with (first | ((with_reducible refine wpList_field_want (op := ⟨some 86, .field 45 (.tmp 85) 0, _, _, _, _⟩) ?wg4 45 (.tmp 85) 0 ?wo4 (.agg #[.bool false, .int .u8 172, .int .u8 16, .int .u8 0, .int .u8 ((1 + q : Nat) : Int), .int .u8 0, .int .u8 0, .int .u8 0, .int .u8 0, .int .u8 0, .int .u8 0, .int .u8 0, .int .u8 0, .int .u8 0, .int .u8 0, .int .u8 0, .int .u8 0, .int .u16 (pt : Int)]) (.agg #[.bool false, .int .u8 172, .int .u8 16, .int .u8 0, .int .u8 ((1 + q : Nat) : Int), .int .u8 0, .int .u8 0, .int .u8 0, .int .u8 0, .int .u8 0, .int .u8 0, .int .u8 0, .int .u8 0, .int .u8 0, .int .u8 0, .int .u8 0, .int .u8 0]) ?wx4 (dip_field _ _ _) ?_); (case wg4 => rfl); (case wo4 => rfl); (case wx4 => rfl)) | ((with_reducible refine wpList_blk_store (op := ⟨none, .store 25 (.tmp 18) (.tmp 86), _, _, _, _⟩) ?sg5 25 (.tmp 18) (.tmp 86) ?so5 (W12.heap.size) Ta ?sx5 ?sy5 (Blk.new W12 25 #[Value.bool false, .int .u8 0, .int .u8 0, .int .u8 0, .int .u8 0, .int .u8 0, .int .u8 0, .int .u8 0, .int .u8 0, .int .u8 0, .int .u8 0, .int .u8 0, .int .u8 0, .int .u8 0, .int .u8 0, .int .u8 0, .int .u8 0]) YT.out ZT.out AT.out ?_); (case sg5 => rfl); (case so5 => rfl); (case sx5 => rfl); (case sy5 => exact HL.out)))
      intro W13 hA hF hB
      have b7 := ((Below.refl W12.heap.size W12).alloc (Nat.le_refl _) (.cells #[Value.bool false, .int .u8 0, .int .u8 0, .int .u8 0, .int .u8 0, .int .u8 0, .int .u8 0, .int .u8 0, .int .u8 0, .int .u8 0, .int .u8 0, .int .u8 0, .int .u8 0, .int .u8 0, .int .u8 0, .int .u8 0, .int .u8 0] 25)).trans (hB _ (Nat.le_refl _))
      have K13 := Lib.hid (K12.out.trans (b7.mono K12.out.size))
      have B13 := Lib.hid (B12.out.below b7)
      have H13 := Lib.hid (H12.out.below b7 H12.out.lt)
      have T13 := Lib.hid hA
      clear hA hF hB b7 K12 B12 H12
      go_wp2_with (((with_reducible refine wpList_blk_load (op := ⟨some 88, .load 25 (.tmp 18), _, _, _, _⟩) ?lg8 25 (.tmp 18) ?lo8 (W12.heap.size) ?lx8 _ T13.out Try.underlying25 ?ld8 ZT.out ?_); (case lg8 => rfl); (case lo8 => rfl); (case lx8 => rfl); (case ld8 => rfl)))
      refine (CE.out W13 _ B13.out).mono ?_
      rintro e W14 ⟨yv, rfl, oy, hy⟩
      obtain ⟨gc, cc, rfl, hcc, hccm, -, -⟩ := own_at oy (by omega)
      have K14 := Lib.hid (K13.out.trans (hy.mono K13.out.size))
      have B14 := Lib.hid (B13.out.below hy)
      have H14 := Lib.hid (H13.out.below hy H13.out.lt)
      have T14 := Lib.hid (T13.out.below hy T13.out.lt)
      have C14 := Lib.hid (Rd.own oy)
      clear oy hy K13 B13 H13 T13 CE
      go_wp2_with fail
      refine (CS.out W14 _ C14.out).mono ?_; rintro e W15 ⟨rfl, hy⟩
      have K15 := Lib.hid (K14.out.trans (hy.mono K14.out.size))
      have B15 := Lib.hid (B14.out.below hy)
      have H15 := Lib.hid (H14.out.below hy H14.out.lt)
      have T15 := Lib.hid (T14.out.below hy T14.out.lt)
      have C15 := Lib.hid (C14.out.below hy)
      clear hy K14 B14 H14 T14 C14 CS
      go_wp2_with (((with_reducible refine wpList_blk_store (op := ⟨none, .store 29 (.tmp 20) (.tmp 93), _, _, _, _⟩) ?sg7 29 (.tmp 20) (.tmp 93) ?so7 (W15.heap.size) hc1 ?sx7 ?sy7 (Blk.new W15 29 #[Value.int .i64 0, .int .i64 0, .int .u8 0, .bool false, .int .u8 0, .int .u8 0, .int .u8 0, .int .u8 0, .int .u8 0, .int .u8 0, .int .u8 0, .int .u8 0, .int .u8 0, .int .u8 0, .int .u8 0, .int .u8 0, .int .u8 0, .int .u8 0, .int .u8 0, .int .u8 0, .bool false, .int .u8 0, .int .u8 0, .int .u8 0, .int .u8 0, .int .u8 0, .int .u8 0, .int .u8 0, .int .u8 0, .int .u8 0, .int .u8 0, .int .u8 0, .int .u8 0, .int .u8 0, .int .u8 0, .int .u8 0, .int .u8 0]) Yc.out Zc.out Ac.out ?_); (case sg7 => rfl); (case so7 => rfl); (case sx7 => rfl); (case sy7 => rfl)))
      intro W16 hA hF hB
      have b7 := ((Below.refl W15.heap.size W15).alloc (Nat.le_refl _) (.cells #[Value.int .i64 0, .int .i64 0, .int .u8 0, .bool false, .int .u8 0, .int .u8 0, .int .u8 0, .int .u8 0, .int .u8 0, .int .u8 0, .int .u8 0, .int .u8 0, .int .u8 0, .int .u8 0, .int .u8 0, .int .u8 0, .int .u8 0, .int .u8 0, .int .u8 0, .int .u8 0, .bool false, .int .u8 0, .int .u8 0, .int .u8 0, .int .u8 0, .int .u8 0, .int .u8 0, .int .u8 0, .int .u8 0, .int .u8 0, .int .u8 0, .int .u8 0, .int .u8 0, .int .u8 0, .int .u8 0, .int .u8 0, .int .u8 0] 29)).trans (hB _ (Nat.le_refl _))
      have K16 := Lib.hid (K15.out.trans (b7.mono K15.out.size))
      have B16 := Lib.hid (B15.out.below b7)
      have R16 := Lib.hid (H15.out.below b7 H15.out.lt)
      have T16 := Lib.hid (T15.out.below b7 T15.out.lt)
      have C16 := Lib.hid (C15.out.below b7)
      have H16 := Lib.hid hA
      clear hA hF hB b7 K15 B15 H15 T15 C15
      have cv : ∀ (W : World) (v : Value) (l : List Nat), Rd W16 v (nus .u8 l) → Below W16.heap.size W16 W → (convert 22 9 v).run Try.prog W = .ok (.string (str l)) W := fun W v l h hW => conv_rd W 22 9 5 Try.underlying22 Try.underlying5 Try.underlying9 _ _ (h.below hW)
      have b3' := Lib.hid (subP B16.out 20 (N - 20) (by omega))
      have y3' := Lib.hid (subP C16.out 20 (N - 20) (by omega))
      rw [C6.out] at y3'
      have V3 := Lib.hid (fun W => cv W _ _ b3'.out)
      have U3 := Lib.hid (fun W => cv W _ _ y3'.out)
      have c0 := Lib.hid (show ∀ W, Below W16.heap.size W16 W → W.cell? ⟨W10.heap.size, 0, none⟩ = some (.int .i64 (N0 : Int)) from fun W h => ((R16.out.below h R16.out.lt).cell 0).trans b0'.out)
      have c1 := Lib.hid (show ∀ W, Below W16.heap.size W16 W → W.cell? ⟨W10.heap.size, 1, none⟩ = some (.int .i64 (N : Int)) from fun W h => ((R16.out.below h R16.out.lt).cell 1).trans b1'.out)
      have x0 := Lib.hid (show ∀ W, Below W16.heap.size W16 W → W.cell? ⟨W15.heap.size, 0, none⟩ = some (.int .i64 (N0 : Int)) from fun W h => ((H16.out.below h H16.out.lt).cell 0).trans c0'.out)
      clear cv b3' y3'
      generalize str ((B.drop 20).take (N - 20)) = s3' at V3 U3
      have HM20 := HM20'
      go_wp2_with fail
      refine wp_region_held (S := (fun w' : World => Below W16.heap.size W16 w')) (by kernel_rfl) ?_
      change wpAnyH _ _ _ _ _ _ _ _ W16.drew
      have hE0 : Below W16.heap.size W16 W16.drew := (Below.refl _ _).drew
      generalize W16.drew = Y0 at hE0  ⊢
      have E0 := Lib.hid hE0
      clear hE0 
      refine wpAnyH_take (i := 0) (oi := { dst := some 95, op := Op.move (Operand.tmp 17), type := 3, pos := "law.go:143", after := #[], guard := none }) (v := ?_) rfl (by kernel_rfl) (by kernel_rfl) (by kernel_rfl) (fun _ _ _ h => h) (Or.inl ⟨by rfl, ?_⟩) E0.out ?_
      rotate_left
      · (intro w1 hS; go_simp; try with_reducible rfl)
      simp only [Act.put, List.setIfInBounds_toArray, List.set_cons_zero, List.set_cons_succ]
      refine wpAnyH_take (i := 1) (oi := { dst := some 96, op := Op.binOp BinOp.eql 3 (Operand.tmp 95) (Operand.const (Value.int IntKind.i64 0)) 3, type := 4, pos := "law.go:143", after := #[{ on := 0, ground := Ground.data }], guard := none }) (v := ?_) rfl (by kernel_rfl) (by kernel_rfl) (by kernel_rfl) (fun _ _ _ h => h) (Or.inl ⟨by rfl, ?_⟩) E0.out ?_
      rotate_left
      · (intro w1 hS; go_simp; try with_reducible rfl)
      simp only [Act.put, List.setIfInBounds_toArray, List.set_cons_zero, List.set_cons_succ]
      refine wpAnyH_take (i := 2) (oi := { dst := some 97, op := Op.move (Operand.tmp 96), type := 4, pos := "law.go:143", after := #[{ on := 1, ground := Ground.data }], guard := none }) (v := ?_) rfl (by kernel_rfl) (by kernel_rfl) (by kernel_rfl) (fun _ _ _ h => h) (Or.inl ⟨by rfl, ?_⟩) E0.out ?_
      rotate_left
      · (intro w1 hS; go_simp; try with_reducible rfl)
      simp only [Act.put, List.setIfInBounds_toArray, List.set_cons_zero, List.set_cons_succ]
      refine wpAnyH_take (i := 3) (oi := { dst := some 98, op := Op.fieldAddr 29 (Operand.tmp 16) 0, type := 0, pos := "law.go:143", after := #[{ on := 2, ground := Ground.guard }], guard := some (2, true) }) (v := ?_) rfl (by kernel_rfl) (by kernel_rfl) (by kernel_rfl) (fun _ _ _ h => h) (Or.inl ⟨by rfl, ?_⟩) E0.out ?_
      rotate_left
      · (intro w1 hS; go_simp; try with_reducible rfl)
      simp only [Act.put, List.setIfInBounds_toArray, List.set_cons_zero, List.set_cons_succ]
      refine wpAnyH_take (i := 4) (oi := { dst := some 99, op := Op.load 3 (Operand.tmp 98), type := 3, pos := "law.go:143", after := #[{ on := 3, ground := Ground.data }, { on := 2, ground := Ground.guard }], guard := some (2, true) }) (v := ?_) rfl (by kernel_rfl) (by kernel_rfl) (by kernel_rfl) (fun _ _ _ h => h) (Or.inl ⟨by rfl, ?_⟩) E0.out ?_
      rotate_left
      · (intro w1 hS; have hW := hS; have q := c0.out w1 hW; clear hW hS; go_simp; try with_reducible rfl)
      simp only [Act.put, List.setIfInBounds_toArray, List.set_cons_zero, List.set_cons_succ]
      refine wpAnyH_take (i := 5) (oi := { dst := some 100, op := Op.move (Operand.tmp 9), type := 3, pos := "law.go:143", after := #[{ on := 2, ground := Ground.guard }], guard := some (2, true) }) (v := ?_) rfl (by kernel_rfl) (by kernel_rfl) (by kernel_rfl) (fun _ _ _ h => h) (Or.inl ⟨by rfl, ?_⟩) E0.out ?_
      rotate_left
      · (intro w1 hS; go_simp; try with_reducible rfl)
      simp only [Act.put, List.setIfInBounds_toArray, List.set_cons_zero, List.set_cons_succ]
      refine wpAnyH_take (i := 6) (oi := { dst := some 101, op := Op.binOp BinOp.mul 3 (Operand.const (Value.int IntKind.i64 4)) (Operand.tmp 100) 3, type := 3, pos := "law.go:143", after := #[{ on := 5, ground := Ground.data }, { on := 2, ground := Ground.guard }], guard := some (2, true) }) (v := ?_) rfl (by kernel_rfl) (by kernel_rfl) (by kernel_rfl) (fun _ _ _ h => h) (Or.inl ⟨by rfl, ?_⟩) E0.out ?_
      rotate_left
      · (intro w1 hS; have hW := hS; have q := HM4.out; clear hW hS; go_simp; try with_reducible rfl)
      simp only [Act.put, List.setIfInBounds_toArray, List.set_cons_zero, List.set_cons_succ]
      refine wpAnyH_take (i := 7) (oi := { dst := some 102, op := Op.binOp BinOp.add 3 (Operand.const (Value.int IntKind.i64 20)) (Operand.tmp 101) 3, type := 3, pos := "law.go:143", after := #[{ on := 6, ground := Ground.data }, { on := 2, ground := Ground.guard }], guard := some (2, true) }) (v := ?_) rfl (by kernel_rfl) (by kernel_rfl) (by kernel_rfl) (fun _ _ _ h => h) (Or.inl ⟨by rfl, ?_⟩) E0.out ?_
      rotate_left
      · (intro w1 hS; have hW := hS; have q := HM20.out; clear hW hS; go_simp; try with_reducible rfl)
      simp only [Act.put, List.setIfInBounds_toArray, List.set_cons_zero, List.set_cons_succ]
      refine wpAnyH_take (i := 8) (oi := { dst := some 103, op := Op.binOp BinOp.eql 3 (Operand.tmp 99) (Operand.tmp 102) 3, type := 4, pos := "law.go:143", after := #[{ on := 4, ground := Ground.data }, { on := 7, ground := Ground.data }, { on := 2, ground := Ground.guard }], guard := some (2, true) }) (v := ?_) rfl (by kernel_rfl) (by kernel_rfl) (by kernel_rfl) (fun _ _ _ h => h) (Or.inl ⟨by rfl, ?_⟩) E0.out ?_
      rotate_left
      · (intro w1 hS; go_simp; try with_reducible rfl)
      simp only [Act.put, List.setIfInBounds_toArray, List.set_cons_zero, List.set_cons_succ]
      refine wpAnyH_take (i := 9) (oi := { dst := some 104, op := Op.pick (Operand.tmp 97) (Operand.tmp 103) (Operand.const (Value.bool false)), type := 4, pos := "law.go:143", after := #[{ on := 2, ground := Ground.data }, { on := 8, ground := Ground.data }], guard := none }) (v := ?_) rfl (by kernel_rfl) (by kernel_rfl) (by kernel_rfl) (fun _ _ _ h => h) (Or.inl ⟨by rfl, ?_⟩) E0.out ?_
      rotate_left
      · (intro w1 hS; go_simp; try with_reducible rfl)
      simp only [Act.put, List.setIfInBounds_toArray, List.set_cons_zero, List.set_cons_succ]
      refine wpAnyH_take (i := 10) (oi := { dst := some 105, op := Op.move (Operand.tmp 104), type := 4, pos := "law.go:143", after := #[{ on := 9, ground := Ground.data }, { on := 2, ground := Ground.chain }], guard := none }) (v := ?_) rfl (by kernel_rfl) (by kernel_rfl) (by kernel_rfl) (fun _ _ _ h => h) (Or.inl ⟨by rfl, ?_⟩) E0.out ?_
      rotate_left
      · (intro w1 hS; go_simp; try with_reducible rfl)
      simp only [Act.put, List.setIfInBounds_toArray, List.set_cons_zero, List.set_cons_succ]
      refine wpAnyH_take (i := 11) (oi := { dst := some 106, op := Op.fieldAddr 29 (Operand.tmp 16) 1, type := 0, pos := "law.go:143", after := #[{ on := 10, ground := Ground.guard }], guard := some (10, true) }) (v := ?_) rfl (by kernel_rfl) (by kernel_rfl) (by kernel_rfl) (fun _ _ _ h => h) (Or.inl ⟨by rfl, ?_⟩) E0.out ?_
      rotate_left
      · (intro w1 hS; go_simp; try with_reducible rfl)
      simp only [Act.put, List.setIfInBounds_toArray, List.set_cons_zero, List.set_cons_succ]
      refine wpAnyH_take (i := 12) (oi := { dst := some 107, op := Op.load 3 (Operand.tmp 106), type := 3, pos := "law.go:143", after := #[{ on := 11, ground := Ground.data }, { on := 10, ground := Ground.guard }], guard := some (10, true) }) (v := ?_) rfl (by kernel_rfl) (by kernel_rfl) (by kernel_rfl) (fun _ _ _ h => h) (Or.inl ⟨by rfl, ?_⟩) E0.out ?_
      rotate_left
      · (intro w1 hS; have hW := hS; have q := c1.out w1 hW; clear hW hS; go_simp; try with_reducible rfl)
      simp only [Act.put, List.setIfInBounds_toArray, List.set_cons_zero, List.set_cons_succ]
      refine wpAnyH_take (i := 13) (oi := { dst := some 108, op := Op.move (Operand.tmp 15), type := 22, pos := "law.go:143", after := #[{ on := 10, ground := Ground.guard }], guard := some (10, true) }) (v := ?_) rfl (by kernel_rfl) (by kernel_rfl) (by kernel_rfl) (fun _ _ _ h => h) (Or.inl ⟨by rfl, ?_⟩) E0.out ?_
      rotate_left
      · (intro w1 hS; go_simp; try with_reducible rfl)
      simp only [Act.put, List.setIfInBounds_toArray, List.set_cons_zero, List.set_cons_succ]
      refine wpAnyH_take (i := 14) (oi := { dst := some 109, op := Op.call { callee := Callee.builtin Builtin.len, args := #[Operand.tmp 108], argTypes := #[22] }, type := 3, pos := "law.go:143", after := #[{ on := 13, ground := Ground.data }, { on := 10, ground := Ground.guard }], guard := some (10, true) }) (v := ?_) rfl (by kernel_rfl) (by kernel_rfl) (by kernel_rfl) (fun _ _ _ h => h) (Or.inl ⟨by rfl, ?_⟩) E0.out ?_
      rotate_left
      · (intro w1 hS; go_simp; try with_reducible rfl)
      simp only [Act.put, List.setIfInBounds_toArray, List.set_cons_zero, List.set_cons_succ]
      refine wpAnyH_take (i := 15) (oi := { dst := some 110, op := Op.binOp BinOp.eql 3 (Operand.tmp 107) (Operand.tmp 109) 3, type := 4, pos := "law.go:143", after := #[{ on := 12, ground := Ground.data }, { on := 14, ground := Ground.data }, { on := 10, ground := Ground.guard }], guard := some (10, true) }) (v := ?_) rfl (by kernel_rfl) (by kernel_rfl) (by kernel_rfl) (fun _ _ _ h => h) (Or.inl ⟨by rfl, ?_⟩) E0.out ?_
      rotate_left
      · (intro w1 hS; go_simp; try with_reducible rfl)
      simp only [Act.put, List.setIfInBounds_toArray, List.set_cons_zero, List.set_cons_succ]
      refine wpAnyH_take (i := 16) (oi := { dst := some 111, op := Op.pick (Operand.tmp 105) (Operand.tmp 110) (Operand.const (Value.bool false)), type := 4, pos := "law.go:143", after := #[{ on := 10, ground := Ground.data }, { on := 15, ground := Ground.data }], guard := none }) (v := ?_) rfl (by kernel_rfl) (by kernel_rfl) (by kernel_rfl) (fun _ _ _ h => h) (Or.inl ⟨by rfl, ?_⟩) E0.out ?_
      rotate_left
      · (intro w1 hS; go_simp; try with_reducible rfl)
      simp only [Act.put, List.setIfInBounds_toArray, List.set_cons_zero, List.set_cons_succ]
      refine wpAnyH_take (i := 17) (oi := { dst := some 112, op := Op.move (Operand.tmp 111), type := 4, pos := "law.go:143", after := #[{ on := 16, ground := Ground.data }, { on := 10, ground := Ground.chain }], guard := none }) (v := ?_) rfl (by kernel_rfl) (by kernel_rfl) (by kernel_rfl) (fun _ _ _ h => h) (Or.inl ⟨by rfl, ?_⟩) E0.out ?_
      rotate_left
      · (intro w1 hS; go_simp; try with_reducible rfl)
      simp only [Act.put, List.setIfInBounds_toArray, List.set_cons_zero, List.set_cons_succ]
      refine wpAnyH_take (i := 18) (oi := { dst := some 113, op := Op.move (Operand.tmp 21), type := 3, pos := "law.go:143", after := #[{ on := 17, ground := Ground.guard }], guard := some (17, true) }) (v := ?_) rfl (by kernel_rfl) (by kernel_rfl) (by kernel_rfl) (fun _ _ _ h => h) (Or.inl ⟨by rfl, ?_⟩) E0.out ?_
      rotate_left
      · (intro w1 hS; go_simp; try with_reducible rfl)
      simp only [Act.put, List.setIfInBounds_toArray, List.set_cons_zero, List.set_cons_succ]
      refine wpAnyH_take (i := 19) (oi := { dst := some 114, op := Op.binOp BinOp.eql 3 (Operand.tmp 113) (Operand.const (Value.int IntKind.i64 0)) 3, type := 4, pos := "law.go:143", after := #[{ on := 18, ground := Ground.data }, { on := 17, ground := Ground.guard }], guard := some (17, true) }) (v := ?_) rfl (by kernel_rfl) (by kernel_rfl) (by kernel_rfl) (fun _ _ _ h => h) (Or.inl ⟨by rfl, ?_⟩) E0.out ?_
      rotate_left
      · (intro w1 hS; go_simp; try with_reducible rfl)
      simp only [Act.put, List.setIfInBounds_toArray, List.set_cons_zero, List.set_cons_succ]
      refine wpAnyH_take (i := 20) (oi := { dst := some 115, op := Op.pick (Operand.tmp 112) (Operand.tmp 114) (Operand.const (Value.bool false)), type := 4, pos := "law.go:143", after := #[{ on := 17, ground := Ground.data }, { on := 19, ground := Ground.data }], guard := none }) (v := ?_) rfl (by kernel_rfl) (by kernel_rfl) (by kernel_rfl) (fun _ _ _ h => h) (Or.inl ⟨by rfl, ?_⟩) E0.out ?_
      rotate_left
      · (intro w1 hS; go_simp; try with_reducible rfl)
      simp only [Act.put, List.setIfInBounds_toArray, List.set_cons_zero, List.set_cons_succ]
      refine wpAnyH_take (i := 21) (oi := { dst := some 116, op := Op.move (Operand.tmp 115), type := 4, pos := "law.go:143", after := #[{ on := 20, ground := Ground.data }, { on := 17, ground := Ground.chain }], guard := none }) (v := ?_) rfl (by kernel_rfl) (by kernel_rfl) (by kernel_rfl) (fun _ _ _ h => h) (Or.inl ⟨by rfl, ?_⟩) E0.out ?_
      rotate_left
      · (intro w1 hS; go_simp; try with_reducible rfl)
      simp only [Act.put, List.setIfInBounds_toArray, List.set_cons_zero, List.set_cons_succ]
      refine wpAnyH_take (i := 22) (oi := { dst := some 117, op := Op.fieldAddr 29 (Operand.tmp 20) 0, type := 0, pos := "law.go:143", after := #[{ on := 21, ground := Ground.guard }], guard := some (21, true) }) (v := ?_) rfl (by kernel_rfl) (by kernel_rfl) (by kernel_rfl) (fun _ _ _ h => h) (Or.inl ⟨by rfl, ?_⟩) E0.out ?_
      rotate_left
      · (intro w1 hS; go_simp; try with_reducible rfl)
      simp only [Act.put, List.setIfInBounds_toArray, List.set_cons_zero, List.set_cons_succ]
      refine wpAnyH_take (i := 23) (oi := { dst := some 118, op := Op.load 3 (Operand.tmp 117), type := 3, pos := "law.go:143", after := #[{ on := 22, ground := Ground.data }, { on := 21, ground := Ground.guard }], guard := some (21, true) }) (v := ?_) rfl (by kernel_rfl) (by kernel_rfl) (by kernel_rfl) (fun _ _ _ h => h) (Or.inl ⟨by rfl, ?_⟩) E0.out ?_
      rotate_left
      · (intro w1 hS; have hW := hS; have q := x0.out w1 hW; clear hW hS; go_simp; try with_reducible rfl)
      simp only [Act.put, List.setIfInBounds_toArray, List.set_cons_zero, List.set_cons_succ]
      refine wpAnyH_take (i := 24) (oi := { dst := some 119, op := Op.fieldAddr 29 (Operand.tmp 16) 0, type := 0, pos := "law.go:143", after := #[{ on := 21, ground := Ground.guard }], guard := some (21, true) }) (v := ?_) rfl (by kernel_rfl) (by kernel_rfl) (by kernel_rfl) (fun _ _ _ h => h) (Or.inl ⟨by rfl, ?_⟩) E0.out ?_
      rotate_left
      · (intro w1 hS; go_simp; try with_reducible rfl)
      simp only [Act.put, List.setIfInBounds_toArray, List.set_cons_zero, List.set_cons_succ]
      refine wpAnyH_take (i := 25) (oi := { dst := some 120, op := Op.load 3 (Operand.tmp 119), type := 3, pos := "law.go:143", after := #[{ on := 24, ground := Ground.data }, { on := 21, ground := Ground.guard }], guard := some (21, true) }) (v := ?_) rfl (by kernel_rfl) (by kernel_rfl) (by kernel_rfl) (fun _ _ _ h => h) (Or.inl ⟨by rfl, ?_⟩) E0.out ?_
      rotate_left
      · (intro w1 hS; have hW := hS; have q := c0.out w1 hW; clear hW hS; go_simp; try with_reducible rfl)
      simp only [Act.put, List.setIfInBounds_toArray, List.set_cons_zero, List.set_cons_succ]
      refine wpAnyH_take (i := 26) (oi := { dst := some 121, op := Op.binOp BinOp.eql 3 (Operand.tmp 118) (Operand.tmp 120) 3, type := 4, pos := "law.go:143", after := #[{ on := 23, ground := Ground.data }, { on := 25, ground := Ground.data }, { on := 21, ground := Ground.guard }], guard := some (21, true) }) (v := ?_) rfl (by kernel_rfl) (by kernel_rfl) (by kernel_rfl) (fun _ _ _ h => h) (Or.inl ⟨by rfl, ?_⟩) E0.out ?_
      rotate_left
      · (intro w1 hS; go_simp; try with_reducible rfl)
      simp only [Act.put, List.setIfInBounds_toArray, List.set_cons_zero, List.set_cons_succ]
      refine wpAnyH_take (i := 27) (oi := { dst := some 122, op := Op.pick (Operand.tmp 116) (Operand.tmp 121) (Operand.const (Value.bool false)), type := 4, pos := "law.go:143", after := #[{ on := 21, ground := Ground.data }, { on := 26, ground := Ground.data }], guard := none }) (v := ?_) rfl (by kernel_rfl) (by kernel_rfl) (by kernel_rfl) (fun _ _ _ h => h) (Or.inl ⟨by rfl, ?_⟩) E0.out ?_
      rotate_left
      · (intro w1 hS; go_simp; try with_reducible rfl)
      simp only [Act.put, List.setIfInBounds_toArray, List.set_cons_zero, List.set_cons_succ]
      refine wpAnyH_take (i := 28) (oi := { dst := some 123, op := Op.move (Operand.tmp 122), type := 4, pos := "law.go:143", after := #[{ on := 27, ground := Ground.data }, { on := 21, ground := Ground.chain }], guard := none }) (v := ?_) rfl (by kernel_rfl) (by kernel_rfl) (by kernel_rfl) (fun _ _ _ h => h) (Or.inl ⟨by rfl, ?_⟩) E0.out ?_
      rotate_left
      · (intro w1 hS; go_simp; try with_reducible rfl)
      simp only [Act.put, List.setIfInBounds_toArray, List.set_cons_zero, List.set_cons_succ]
      refine wpAnyH_take (i := 29) (oi := { dst := some 124, op := Op.fieldAddr 29 (Operand.tmp 20) 4, type := 0, pos := "law.go:143", after := #[{ on := 28, ground := Ground.guard }], guard := some (28, true) }) (v := ?_) rfl (by kernel_rfl) (by kernel_rfl) (by kernel_rfl) (fun _ _ _ h => h) (Or.inl ⟨by rfl, ?_⟩) E0.out ?_
      rotate_left
      · (intro w1 hS; go_simp; try with_reducible rfl)
      simp only [Act.put, List.setIfInBounds_toArray, List.set_cons_zero, List.set_cons_succ]
      refine wpAnyH_take (i := 30) (oi := { dst := some 125, op := Op.load 25 (Operand.tmp 124), type := 25, pos := "law.go:143", after := #[{ on := 29, ground := Ground.data }, { on := 28, ground := Ground.guard }], guard := some (28, true) }) (v := .agg Ta) rfl (by kernel_rfl) (by kernel_rfl) (by kernel_rfl) (fun _ _ _ h => h) (Or.inl ⟨by rfl, ?_⟩) E0.out ?_
      · (intro w1 hS; have hW := hS; exact exec_load 25 (.tmp 124) rfl _ rfl _ (by have h := run_part_load (P := Try.prog) 25 20 Ta.toList _ (H16.out.below hW H16.out.lt) hp2.out Try.underlying25 rfl IT.out; rwa [Array.toArray_toList] at h))
      simp only [Act.put, List.setIfInBounds_toArray, List.set_cons_zero, List.set_cons_succ]
      refine wpAnyH_take (i := 31) (oi := { dst := some 126, op := Op.load 25 (Operand.tmp 18), type := 25, pos := "law.go:143", after := #[{ on := 28, ground := Ground.guard }], guard := some (28, true) }) (v := .agg Ta) rfl (by kernel_rfl) (by kernel_rfl) (by kernel_rfl) (fun _ _ _ h => h) (Or.inl ⟨by rfl, ?_⟩) E0.out ?_
      · (intro w1 hS; have hW := hS; exact exec_load 25 (.tmp 18) rfl _ rfl _ (run_blk_load (P := Try.prog) 25 W12.heap.size _ (T16.out.below hW T16.out.lt) Try.underlying25 rfl ZT.out))
      simp only [Act.put, List.setIfInBounds_toArray, List.set_cons_zero, List.set_cons_succ]
      refine wpAnyH_take (i := 32) (oi := { dst := some 127, op := Op.binOp BinOp.eql 25 (Operand.tmp 125) (Operand.tmp 126) 25, type := 4, pos := "law.go:143", after := #[{ on := 30, ground := Ground.data }, { on := 31, ground := Ground.data }, { on := 28, ground := Ground.guard }], guard := some (28, true) }) (v := ?_) rfl (by kernel_rfl) (by kernel_rfl) (by kernel_rfl) (fun _ _ _ h => h) (Or.inl ⟨by rfl, ?_⟩) E0.out ?_
      rotate_left
      · (intro w1 hS; have hW := hS; have q := QT.out; clear hW hS; go_simp; try with_reducible rfl)
      simp only [Act.put, List.setIfInBounds_toArray, List.set_cons_zero, List.set_cons_succ]
      refine wpAnyH_take (i := 33) (oi := { dst := some 128, op := Op.pick (Operand.tmp 123) (Operand.tmp 127) (Operand.const (Value.bool false)), type := 4, pos := "law.go:143", after := #[{ on := 28, ground := Ground.data }, { on := 32, ground := Ground.data }], guard := none }) (v := ?_) rfl (by kernel_rfl) (by kernel_rfl) (by kernel_rfl) (fun _ _ _ h => h) (Or.inl ⟨by rfl, ?_⟩) E0.out ?_
      rotate_left
      · (intro w1 hS; go_simp; try with_reducible rfl)
      simp only [Act.put, List.setIfInBounds_toArray, List.set_cons_zero, List.set_cons_succ]
      refine wpAnyH_take (i := 34) (oi := { dst := some 129, op := Op.move (Operand.tmp 128), type := 4, pos := "law.go:143", after := #[{ on := 33, ground := Ground.data }, { on := 28, ground := Ground.chain }], guard := none }) (v := ?_) rfl (by kernel_rfl) (by kernel_rfl) (by kernel_rfl) (fun _ _ _ h => h) (Or.inl ⟨by rfl, ?_⟩) E0.out ?_
      rotate_left
      · (intro w1 hS; go_simp; try with_reducible rfl)
      simp only [Act.put, List.setIfInBounds_toArray, List.set_cons_zero, List.set_cons_succ]
      refine wpAnyH_take (i := 35) (oi := { dst := some 130, op := Op.move (Operand.tmp 19), type := 22, pos := "law.go:143", after := #[{ on := 34, ground := Ground.guard }], guard := some (34, true) }) (v := ?_) rfl (by kernel_rfl) (by kernel_rfl) (by kernel_rfl) (fun _ _ _ h => h) (Or.inl ⟨by rfl, ?_⟩) E0.out ?_
      rotate_left
      · (intro w1 hS; go_simp; try with_reducible rfl)
      simp only [Act.put, List.setIfInBounds_toArray, List.set_cons_zero, List.set_cons_succ]
      refine wpAnyH_take (i := 36) (oi := { dst := some 131, op := Op.call { callee := Callee.builtin Builtin.len, args := #[Operand.tmp 130], argTypes := #[22] }, type := 3, pos := "law.go:143", after := #[{ on := 35, ground := Ground.data }, { on := 34, ground := Ground.guard }], guard := some (34, true) }) (v := ?_) rfl (by kernel_rfl) (by kernel_rfl) (by kernel_rfl) (fun _ _ _ h => h) (Or.inl ⟨by rfl, ?_⟩) E0.out ?_
      rotate_left
      · (intro w1 hS; go_simp; try with_reducible rfl)
      simp only [Act.put, List.setIfInBounds_toArray, List.set_cons_zero, List.set_cons_succ]
      refine wpAnyH_take (i := 37) (oi := { dst := some 132, op := Op.move (Operand.tmp 15), type := 22, pos := "law.go:143", after := #[{ on := 34, ground := Ground.guard }], guard := some (34, true) }) (v := ?_) rfl (by kernel_rfl) (by kernel_rfl) (by kernel_rfl) (fun _ _ _ h => h) (Or.inl ⟨by rfl, ?_⟩) E0.out ?_
      rotate_left
      · (intro w1 hS; go_simp; try with_reducible rfl)
      simp only [Act.put, List.setIfInBounds_toArray, List.set_cons_zero, List.set_cons_succ]
      refine wpAnyH_take (i := 38) (oi := { dst := some 133, op := Op.call { callee := Callee.builtin Builtin.len, args := #[Operand.tmp 132], argTypes := #[22] }, type := 3, pos := "law.go:143", after := #[{ on := 37, ground := Ground.data }, { on := 34, ground := Ground.guard }], guard := some (34, true) }) (v := ?_) rfl (by kernel_rfl) (by kernel_rfl) (by kernel_rfl) (fun _ _ _ h => h) (Or.inl ⟨by rfl, ?_⟩) E0.out ?_
      rotate_left
      · (intro w1 hS; go_simp; try with_reducible rfl)
      simp only [Act.put, List.setIfInBounds_toArray, List.set_cons_zero, List.set_cons_succ]
      refine wpAnyH_take (i := 39) (oi := { dst := some 134, op := Op.binOp BinOp.eql 3 (Operand.tmp 131) (Operand.tmp 133) 3, type := 4, pos := "law.go:143", after := #[{ on := 36, ground := Ground.data }, { on := 38, ground := Ground.data }, { on := 34, ground := Ground.guard }], guard := some (34, true) }) (v := ?_) rfl (by kernel_rfl) (by kernel_rfl) (by kernel_rfl) (fun _ _ _ h => h) (Or.inl ⟨by rfl, ?_⟩) E0.out ?_
      rotate_left
      · (intro w1 hS; go_simp; try with_reducible rfl)
      simp only [Act.put, List.setIfInBounds_toArray, List.set_cons_zero, List.set_cons_succ]
      refine wpAnyH_take (i := 40) (oi := { dst := some 135, op := Op.pick (Operand.tmp 129) (Operand.tmp 134) (Operand.const (Value.bool false)), type := 4, pos := "law.go:143", after := #[{ on := 34, ground := Ground.data }, { on := 39, ground := Ground.data }], guard := none }) (v := ?_) rfl (by kernel_rfl) (by kernel_rfl) (by kernel_rfl) (fun _ _ _ h => h) (Or.inl ⟨by rfl, ?_⟩) E0.out ?_
      rotate_left
      · (intro w1 hS; go_simp; try with_reducible rfl)
      simp only [Act.put, List.setIfInBounds_toArray, List.set_cons_zero, List.set_cons_succ]
      refine wpAnyH_take (i := 41) (oi := { dst := some 136, op := Op.move (Operand.tmp 135), type := 4, pos := "law.go:143", after := #[{ on := 40, ground := Ground.data }, { on := 34, ground := Ground.chain }], guard := none }) (v := ?_) rfl (by kernel_rfl) (by kernel_rfl) (by kernel_rfl) (fun _ _ _ h => h) (Or.inl ⟨by rfl, ?_⟩) E0.out ?_
      rotate_left
      · (intro w1 hS; go_simp; try with_reducible rfl)
      simp only [Act.put, List.setIfInBounds_toArray, List.set_cons_zero, List.set_cons_succ]
      refine wpAnyH_take (i := 42) (oi := { dst := some 137, op := Op.move (Operand.tmp 19), type := 22, pos := "law.go:143", after := #[{ on := 41, ground := Ground.guard }], guard := some (41, true) }) (v := ?_) rfl (by kernel_rfl) (by kernel_rfl) (by kernel_rfl) (fun _ _ _ h => h) (Or.inl ⟨by rfl, ?_⟩) E0.out ?_
      rotate_left
      · (intro w1 hS; go_simp; try with_reducible rfl)
      simp only [Act.put, List.setIfInBounds_toArray, List.set_cons_zero, List.set_cons_succ]
      refine wpAnyH_take (i := 43) (oi := { dst := some 138, op := Op.slice 22 (Operand.tmp 137) (some (Operand.const (Value.int IntKind.i64 20))) none none, type := 22, pos := "law.go:143", after := #[{ on := 42, ground := Ground.data }, { on := 41, ground := Ground.guard }], guard := some (41, true) }) (v := ?_) rfl (by kernel_rfl) (by kernel_rfl) (by kernel_rfl) (fun _ _ _ h => h) (Or.inl ⟨by rfl, ?_⟩) E0.out ?_
      rotate_left
      · (intro w1 hS; have hW := hS; have q : (20 : Int) ≤ (N : Int) := (by omega); clear hW hS; go_simp; try with_reducible rfl)
      simp only [Act.put, List.setIfInBounds_toArray, List.set_cons_zero, List.set_cons_succ]
      refine wpAnyH_take (i := 44) (oi := { dst := some 139, op := Op.convert 22 9 (Operand.tmp 138), type := 9, pos := "law.go:143", after := #[{ on := 43, ground := Ground.data }, { on := 41, ground := Ground.guard }], guard := some (41, true) }) (v := ?_) rfl (by kernel_rfl) (by kernel_rfl) (by kernel_rfl) (fun _ _ _ h => h) (Or.inl ⟨by rfl, ?_⟩) E0.out ?_
      rotate_left
      · (intro w1 hS; have hW := hS; have q := U3.out w1 hW; clear hW hS; go_simp; try with_reducible rfl)
      simp only [Act.put, List.setIfInBounds_toArray, List.set_cons_zero, List.set_cons_succ]
      refine wpAnyH_take (i := 45) (oi := { dst := some 140, op := Op.move (Operand.tmp 15), type := 22, pos := "law.go:143", after := #[{ on := 41, ground := Ground.guard }], guard := some (41, true) }) (v := ?_) rfl (by kernel_rfl) (by kernel_rfl) (by kernel_rfl) (fun _ _ _ h => h) (Or.inl ⟨by rfl, ?_⟩) E0.out ?_
      rotate_left
      · (intro w1 hS; go_simp; try with_reducible rfl)
      simp only [Act.put, List.setIfInBounds_toArray, List.set_cons_zero, List.set_cons_succ]
      refine wpAnyH_take (i := 46) (oi := { dst := some 141, op := Op.slice 22 (Operand.tmp 140) (some (Operand.const (Value.int IntKind.i64 20))) none none, type := 22, pos := "law.go:143", after := #[{ on := 45, ground := Ground.data }, { on := 41, ground := Ground.guard }], guard := some (41, true) }) (v := ?_) rfl (by kernel_rfl) (by kernel_rfl) (by kernel_rfl) (fun _ _ _ h => h) (Or.inl ⟨by rfl, ?_⟩) E0.out ?_
      rotate_left
      · (intro w1 hS; have hW := hS; have q : (20 : Int) ≤ (N : Int) := (by omega); clear hW hS; go_simp; try with_reducible rfl)
      simp only [Act.put, List.setIfInBounds_toArray, List.set_cons_zero, List.set_cons_succ]
      refine wpAnyH_take (i := 47) (oi := { dst := some 142, op := Op.convert 22 9 (Operand.tmp 141), type := 9, pos := "law.go:143", after := #[{ on := 46, ground := Ground.data }, { on := 41, ground := Ground.guard }], guard := some (41, true) }) (v := ?_) rfl (by kernel_rfl) (by kernel_rfl) (by kernel_rfl) (fun _ _ _ h => h) (Or.inl ⟨by rfl, ?_⟩) E0.out ?_
      rotate_left
      · (intro w1 hS; have hW := hS; have q := V3.out w1 hW; clear hW hS; go_simp; try with_reducible rfl)
      simp only [Act.put, List.setIfInBounds_toArray, List.set_cons_zero, List.set_cons_succ]
      refine wpAnyH_take (i := 48) (oi := { dst := some 143, op := Op.binOp BinOp.eql 9 (Operand.tmp 139) (Operand.tmp 142) 9, type := 4, pos := "law.go:143", after := #[{ on := 44, ground := Ground.data }, { on := 47, ground := Ground.data }, { on := 41, ground := Ground.guard }], guard := some (41, true) }) (v := ?_) rfl (by kernel_rfl) (by kernel_rfl) (by kernel_rfl) (fun _ _ _ h => h) (Or.inl ⟨by rfl, ?_⟩) E0.out ?_
      rotate_left
      · (intro w1 hS; go_simp; try with_reducible rfl)
      simp only [Act.put, List.setIfInBounds_toArray, List.set_cons_zero, List.set_cons_succ]
      refine wpAnyH_take (i := 49) (oi := { dst := some 144, op := Op.pick (Operand.tmp 136) (Operand.tmp 143) (Operand.const (Value.bool false)), type := 4, pos := "law.go:143", after := #[{ on := 41, ground := Ground.data }, { on := 48, ground := Ground.data }], guard := none }) (v := ?_) rfl (by kernel_rfl) (by kernel_rfl) (by kernel_rfl) (fun _ _ _ h => h) (Or.inl ⟨by rfl, ?_⟩) E0.out ?_
      rotate_left
      · (intro w1 hS; go_simp; try with_reducible rfl)
      simp only [Act.put, List.setIfInBounds_toArray, List.set_cons_zero, List.set_cons_succ]
      refine wpAnyH_take (i := 50) (oi := { dst := some 145, op := Op.move (Operand.tmp 144), type := 4, pos := "law.go:143", after := #[{ on := 49, ground := Ground.data }, { on := 41, ground := Ground.chain }], guard := none }) (v := ?_) rfl (by kernel_rfl) (by kernel_rfl) (by kernel_rfl) (fun _ _ _ h => h) (Or.inl ⟨by rfl, ?_⟩) E0.out ?_
      rotate_left
      · (intro w1 hS; go_simp; try with_reducible rfl)
      simp only [Act.put, List.setIfInBounds_toArray, List.set_cons_zero, List.set_cons_succ]
      refine wpAnyH_ready (rs := [51]) (by kernel_rfl) (by simp) ?_
      refine AllReadyH.cons (o := { dst := some 146, op := Op.call { callee := Callee.value (Operand.func 8), args := #[], argTypes := #[] }, type := 4, pos := "law.go:143", after := #[{ on := 50, ground := Ground.chain }, { on := 50, ground := Ground.guard }], guard := some (50, true) }) rfl (fun K hK => ?_) AllReadyH.nil
      go_simp
      refine (awake_any Y0).mono ?_
      rintro e Y1 ⟨rfl, hy⟩
      have E1 := Lib.hid (E0.out.trans (hy.mono E0.out.size))
      have C1 := Lib.hid E1.out
      clear hy E0
      refine hK.out _ _ C1.out (fun _ => ?_)
      clear hK K
      refine wpAnyH_mono (S' := (fun w' : World => Below Y1.heap.size Y1 w')) (fun w1 h => C1.out.trans (h.mono C1.out.size)) _ _ _ _ ?_
      clear C1
      try simp only [Act.put, List.setIfInBounds_toArray, List.set_cons_zero, List.set_cons_succ]
      refine wpAnyH_take (i := 52) (oi := { dst := some 147, op := Op.pick (Operand.tmp 145) (Operand.tmp 146) (Operand.const (Value.bool false)), type := 4, pos := "law.go:143", after := #[{ on := 50, ground := Ground.data }, { on := 51, ground := Ground.data }], guard := none }) (v := ?_) rfl (by kernel_rfl) (by kernel_rfl) (by kernel_rfl) (fun _ _ _ h => h) (Or.inl ⟨by rfl, ?_⟩) (Below.refl _ _) ?_
      rotate_left
      · (intro w1 hS; go_simp; try with_reducible rfl)
      simp only [Act.put, List.setIfInBounds_toArray, List.set_cons_zero, List.set_cons_succ]
      refine wpAnyH_take (i := 53) (oi := { dst := some 8, op := Op.assign (Operand.tmp 147), type := 4, pos := "law.go:143", after := #[{ on := 52, ground := Ground.data }, { on := 51, ground := Ground.chain }, { on := 0, ground := Ground.phase }, { on := 1, ground := Ground.phase }, { on := 2, ground := Ground.phase }, { on := 3, ground := Ground.phase }, { on := 4, ground := Ground.phase }, { on := 5, ground := Ground.phase }, { on := 6, ground := Ground.phase }, { on := 7, ground := Ground.phase }, { on := 8, ground := Ground.phase }, { on := 9, ground := Ground.phase }, { on := 10, ground := Ground.phase }, { on := 11, ground := Ground.phase }, { on := 12, ground := Ground.phase }, { on := 13, ground := Ground.phase }, { on := 14, ground := Ground.phase }, { on := 15, ground := Ground.phase }, { on := 16, ground := Ground.phase }, { on := 17, ground := Ground.phase }, { on := 18, ground := Ground.phase }, { on := 19, ground := Ground.phase }, { on := 20, ground := Ground.phase }, { on := 21, ground := Ground.phase }, { on := 22, ground := Ground.phase }, { on := 23, ground := Ground.phase }, { on := 24, ground := Ground.phase }, { on := 25, ground := Ground.phase }, { on := 26, ground := Ground.phase }, { on := 27, ground := Ground.phase }, { on := 28, ground := Ground.phase }, { on := 29, ground := Ground.phase }, { on := 30, ground := Ground.phase }, { on := 31, ground := Ground.phase }, { on := 32, ground := Ground.phase }, { on := 33, ground := Ground.phase }, { on := 34, ground := Ground.phase }, { on := 35, ground := Ground.phase }, { on := 36, ground := Ground.phase }, { on := 37, ground := Ground.phase }, { on := 38, ground := Ground.phase }, { on := 39, ground := Ground.phase }, { on := 40, ground := Ground.phase }, { on := 41, ground := Ground.phase }, { on := 42, ground := Ground.phase }, { on := 43, ground := Ground.phase }, { on := 44, ground := Ground.phase }, { on := 45, ground := Ground.phase }, { on := 46, ground := Ground.phase }, { on := 47, ground := Ground.phase }, { on := 48, ground := Ground.phase }, { on := 49, ground := Ground.phase }, { on := 50, ground := Ground.phase }, { on := 51, ground := Ground.phase }, { on := 52, ground := Ground.phase }], guard := none }) (v := ?_) rfl (by kernel_rfl) (by kernel_rfl) (by kernel_rfl) (fun _ _ _ h => h) (Or.inl ⟨by rfl, ?_⟩) (Below.refl _ _) ?_
      rotate_left
      · (intro w1 hS; go_simp; try with_reducible rfl)
      simp only [Act.put, List.setIfInBounds_toArray, List.set_cons_zero, List.set_cons_succ]
      refine wpAnyH_done (by kernel_rfl) ?_ _
      generalize (if cc = 20 then some (⟨gc, 0, none⟩ : Addr) else some ⟨gc, 20, none⟩) = z1
      generalize (if cb = 20 then some (⟨gb, 0, none⟩ : Addr) else some ⟨gb, 20, none⟩) = z2
      clear HR hna hl HM4 c0 c1 x0 V3 U3 T16 R16 H16 B16 C16
      go_wp2
      go_ret
      exact ⟨rfl, K16.out.trans (E1.out.mono K16.out.size)⟩
end Go.Proofs.Ythjaolngfjfldaa

