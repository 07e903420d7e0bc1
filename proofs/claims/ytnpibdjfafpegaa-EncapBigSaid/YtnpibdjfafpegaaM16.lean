/- Texts that the walks of this seat lean on, put together. -/
import Derived.LoopTactic
import Derived.Lib.QuietBelow
import Derived.Test.YtnpibdjfafpegaaTk
import Derived.Test.YtnpibdjfafpegaaM08
import Derived.Test.YtnpibdjfafpegaaM10
import Derived.Test.YtnpibdjfafpegaaM11
import Derived.Test.YtnpibdjfafpegaaM12
import Derived.Test.YtnpibdjfafpegaaM13
import Derived.Test.YtnpibdjfafpegaaM14
import Derived.Test.YtnpibdjfafpegaaM15
namespace Go.Proofs.Ytnpibdjfafpegaa
open Go.RowKit
set_option maxRecDepth 100000 in
set_option maxHeartbeats 800000 in
theorem net_any (v : Value) (zs : List Nat) (w : World) (hr : Rd w v (nus .u8 zs)) (hb : ∀ c ∈ zs, c < 256) :
    Calls Try.prog 32 #[v] w fun e w' => e = .returned (.tuple #[.int .i64 ((net zs).1 : Nat), .int .u16 ((net zs).2.1 : Nat), .int .i64 ((net zs).2.2 : Nat)]) ∧ w = w' := by
  have HR := Lib.hid hr
  have HB := Lib.hid hb
  obtain ⟨a, cap, rfl, hlc, hl, -⟩ := hr
  rw [nus_length] at hlc HR ⊢
  have hk1 := u2_lt zs 12 hb
  have hk2 := u2_lt zs 16 hb
  clear hb
  have hlm : zs.length ≤ maxLen := Nat.le_trans hlc hl
  clear hl hlc
  by_cases h14 : zs.length < 14
  · rw [net_short zs h14]
    go_enter Try.func32, Try.ntmps32
    go_wp2_with fail
    refine (get16_no _ _ _ 12 _ hlm (.inr (by omega))).mono ?_; rintro e w' ⟨rfl, rfl⟩
    go_wp2
    go_ret3
    exact ⟨rfl, rfl⟩
  · have hk := be_u2 zs 12 (by omega)
    by_cases hv : u2 zs 12 = 33024
    · by_cases h18 : zs.length < 18
      · rw [net_cut zs h14 hv h18]
        go_enter Try.func32, Try.ntmps32
        go_wp2_with fail
        refine (get16_yes _ 12 zs _ HR.out HB.out (by omega)).mono ?_; rintro e w' ⟨rfl, rfl⟩
        rw [hk, hv]
        go_wp2_with fail
        refine (get16_no _ _ _ 16 _ hlm (.inr (by omega))).mono ?_; rintro e w' ⟨rfl, rfl⟩
        go_wp2
        go_ret3
        exact ⟨rfl, rfl⟩
      · have hl := be_u2 zs 16 (by omega)
        rw [net_tag zs h14 hv h18]
        obtain ⟨kd, hK⟩ : ∃ kd, kd = u2 zs 16 := ⟨_, rfl⟩
        rw [← hK] at hl hk2 ⊢
        clear hK
        go_enter Try.func32, Try.ntmps32
        go_wp2_with fail
        refine (get16_yes _ 12 zs _ HR.out HB.out (by omega)).mono ?_; rintro e w' ⟨rfl, rfl⟩
        rw [hk, hv]
        go_wp2_with fail
        refine (get16_yes _ 16 zs _ HR.out HB.out (by omega)).mono ?_; rintro e w' ⟨rfl, rfl⟩
        rw [hl]
        clear hk hl hv hk1
        by_cases h1 : kd = 2048
        · subst h1
          go_wp2
          go_ret3
          exact ⟨rfl, rfl⟩
        · by_cases h2 : kd = 34525
          · subst h2
            go_wp2
            go_ret3
            exact ⟨rfl, rfl⟩
          · have en := Lib.hid (netK_no 18 kd h1 h2)
            have g1 : ((kd : Int) != 2048) = true := by simp; omega
            have g2 : ((kd : Int) != 34525) = true := by simp; omega
            clear h1 h2
            go_wp2
            go_ret3
            exact ⟨by rw [en.out]; rfl, rfl⟩
    · rw [net_bare zs h14 hv]
      obtain ⟨kd, hK⟩ : ∃ k, k = u2 zs 12 := ⟨_, rfl⟩
      rw [← hK] at hk hk1 hv ⊢
      clear hK
      go_enter Try.func32, Try.ntmps32
      go_wp2_with fail
      refine (get16_yes _ 12 zs _ HR.out HB.out (by omega)).mono ?_; rintro e w' ⟨rfl, rfl⟩
      rw [hk]
      clear hk hk2
      have g0 : ((kd : Int) == 33024) = false := by simp; omega
      clear hv
      by_cases h1 : kd = 2048
      · subst h1
        go_wp2
        go_ret3
        exact ⟨rfl, rfl⟩
      · by_cases h2 : kd = 34525
        · subst h2
          go_wp2
          go_ret3
          exact ⟨rfl, rfl⟩
        · have en := Lib.hid (netK_no 14 kd h1 h2)
          have g1 : ((kd : Int) != 2048) = true := by simp; omega
          have g2 : ((kd : Int) != 34525) = true := by simp; omega
          clear h1 h2
          go_wp2
          go_ret3
          exact ⟨by rw [en.out]; rfl, rfl⟩
set_option maxRecDepth 100000 in
set_option maxHeartbeats 400000 in
theorem check_any (va : Value) (zs : List Nat) (w : World) (hr : Rd w va (nus .u8 zs)) (hz : zs.length ≤ 140737488351232) (hb : ∀ c ∈ zs, c < 256) :
    Calls Try.prog 57 #[va] w fun e w' => e = .returned (.int .u16 (ck zs : Nat)) ∧ Below w.heap.size w w' := by
  have h2 := Lib.hid (not_gr (wsp 0 zs))
  go_enter Try.func57, Try.ntmps57
  go_wp2_with fail
  refine (sum_any va zs 0 w hr hz hb (by omega)).mono ?_
  rintro e w' ⟨rfl, hb⟩
  rw [Nat.zero_add]
  go_wp2
  go_ret
  exact ⟨ret_int h2.out, hb⟩
set_option maxRecDepth 100000 in
set_option maxHeartbeats 2000000 in
theorem from_ok (va : Value) (v : Bool) (bs : List Nat) (w : World) (hr : Rd w va (nus .u8 bs)) (h : bs.length = 4 ∧ v = false ∨ bs.length = 16 ∧ v = true) :
    Calls Try.prog 47 #[va] w fun e w' => e = .returned (.tuple #[adr v (bs ++ List.replicate (16 - bs.length) 0), .int .i64 0]) ∧ Below w.heap.size w w' := by
  obtain ⟨a, cap, rfl, hlc, hc⟩ := rd_shape hr
  have hr1 := hr.below ((((Below.refl w.heap.size w).alloc (Nat.le_refl _) (.cells (cellsA false (List.replicate 16 0)) 27)).alloc (by simp) (.cells (cellsA v (List.replicate 16 0)) 27)))
  obtain ⟨b0, o0, rfl, hcell0⟩ := hr1.cells (by omega)
  clear hr hr1
  rcases h with ⟨h4, rfl⟩ | ⟨h16, rfl⟩
  · have d4 : (((4 : Nat) : Int) != 4) = false := by rfl
    have hcell := hcell0
    obtain ⟨cs, hcs⟩ : ∃ cs, cs = cellsA false (bs ++ List.replicate (16 - bs.length) 0) := ⟨_, rfl⟩
    have hz : cs.size = 17 := by rw [hcs, cellsA_size, List.length_append, List.length_replicate]; omega
    have HZ := Lib.hid (i24.trans (congrArg some hz.symm))
    have HZ2 := Lib.hid (hz.trans (cellsA_size false (List.replicate 16 0)).symm)
    have HAll := Lib.hid (show cs.all (·.oneCell') = true by rw [hcs]; exact cellsA_all _ _)
    have HSP := Lib.hid ((splice_at false bs (by omega)).trans hcs.symm)
    have HC := Lib.hid hcs
    have HL := Lib.hid h4
    have HO := Lib.hid ((Blk.new w 27 (cellsA false (List.replicate 16 0))).alloc (.cells (cellsA false (List.replicate 16 0)) 27))
    have HN := Lib.hid (show Blk ((w.alloc (.cells (cellsA false (List.replicate 16 0)) 27)).alloc (.cells (cellsA false (List.replicate 16 0)) 27)) (w.heap.size + 1) 27 (cellsA false (List.replicate 16 0)) by
      have := Blk.new (w.alloc (.cells (cellsA false (List.replicate 16 0)) 27)) 27 (cellsA false (List.replicate 16 0)); rw [World.size_alloc] at this; exact this)
    have HCE := Lib.hid hcell
    have HB := Lib.hid ((((Below.refl w.heap.size w).alloc (Nat.le_refl _) (.cells (cellsA false (List.replicate 16 0)) 27)).alloc (by simp) (.cells (cellsA false (List.replicate 16 0)) 27)))
    clear hcell hcell0 hz hcs
    rw [HL.out]
    clear d4
    have d4 : (((4 : Int)) != 4) = false := by rfl
    clear d4
    go_enter Try.func47, Try.ntmps47
    go_wp2_with ((with_reducible refine wpList_copy_splice (o := ⟨some 21, _, _, _, _, _⟩) rfl (.tmp 19) (.tmp 20) 22 22 rfl 5 Try.underlying22 info5_size _ _ _ _ _ _ rfl rfl (w.heap.size + 1) 1 (cellsA false (List.replicate 16 0)).toList 27 ?cg4 (nus .u8 bs) ?cn4 ?cp4 ?cf4 ?co4 (w.heap.size + 1) _ (Below.refl _ _) (Nat.le_refl _) ?_))
    case cg4 => rw [Array.toArray_toList]; exact HN.out
    case cn4 => rw [nus_length, HL.out]; rfl
    case cp4 =>
      intro _ j u hj
      have hjl : j < bs.length := by have := (List.getElem?_eq_some_iff.1 hj).1; rwa [nus_length] at this
      rw [nus_get _ _ _ hjl] at hj
      cases hj
      exact HCE.out j hjl
    case cf4 => rw [nus_length, HL.out]; decide
    case co4 => exact oneCell_nus _ _
    intro W2 hg2 hb2
    have h2 : W2.heap[w.heap.size + 1]? = some (.cells (splice (cellsA false (List.replicate 16 0)).toList 1 (nus .u8 bs)).toArray 27 (0, 0)) := hg2.out
    rw [HSP.out] at h2
    have HW2 := Lib.hid (show Blk W2 (w.heap.size + 1) 27 cs from h2)
    have HO2 := Lib.hid (show Blk W2 w.heap.size 27 (cellsA false (List.replicate 16 0)) from (hb2.block _ (Nat.lt_succ_self _)).trans HO.out)
    have HB2 := Lib.hid (HB.out.trans (hb2.mono (Nat.le_succ _)))
    clear h2 hg2 hb2
    go_wp2_with (first
      | ((with_reducible refine wpList_blk_load (op := ⟨some 22, .load 27 (.tmp 4), _, _, _, _⟩) ?lg1 27 (.tmp 4) ?lo1 (w.heap.size + 1) ?lx1 _ HW2.out Try.underlying27 ?ld1 HZ.out ?_); (case lg1 => rfl); (case lo1 => rfl); (case lx1 => rfl); (case ld1 => rfl))
      | ((with_reducible refine wpList_blk_store (op := ⟨none, .store 27 (.tmp 2) (.tmp 22), _, _, _, _⟩) ?sg1 27 (.tmp 2) (.tmp 22) ?so1 w.heap.size cs ?sx1 ?sy1 HO2.out HZ2.out HZ.out HAll.out ?_); (case sg1 => rfl); (case so1 => rfl); (case sx1 => rfl); (case sy1 => rfl)))
    intro w3 hA hF hB
    have HF := Lib.hid hF
    have HA := Lib.hid hA
    clear hF hA
    go_wp2
    have hrun := run_blk_load (P := Try.prog) 27 w.heap.size _ HA.out Try.underlying27 rfl HZ.out
    refine bodyPost_ret (results_cell_tmp 2 27 3 w.heap.size _ Try.results47 rfl hrun) rfl ⟨?_, HB2.out.trans (hB _ (Nat.le_refl _))⟩
    rw [HC.out, HL.out]
    rfl
  · have d4 : (((16 : Nat) : Int) != 4) = true := by rfl
    have hcell := hcell0
    obtain ⟨cs, hcs⟩ : ∃ cs, cs = cellsA true (bs ++ List.replicate (16 - bs.length) 0) := ⟨_, rfl⟩
    have hz : cs.size = 17 := by rw [hcs, cellsA_size, List.length_append, List.length_replicate]; omega
    have HZ := Lib.hid (i24.trans (congrArg some hz.symm))
    have HZ2 := Lib.hid (hz.trans (cellsA_size false (List.replicate 16 0)).symm)
    have HAll := Lib.hid (show cs.all (·.oneCell') = true by rw [hcs]; exact cellsA_all _ _)
    have HSP := Lib.hid ((splice_at true bs (by omega)).trans hcs.symm)
    have HC := Lib.hid hcs
    have HL := Lib.hid h16
    have HO := Lib.hid ((Blk.new w 27 (cellsA false (List.replicate 16 0))).alloc (.cells (cellsA true (List.replicate 16 0)) 27))
    have HN := Lib.hid (show Blk ((w.alloc (.cells (cellsA false (List.replicate 16 0)) 27)).alloc (.cells (cellsA true (List.replicate 16 0)) 27)) (w.heap.size + 1) 27 (cellsA true (List.replicate 16 0)) by
      have := Blk.new (w.alloc (.cells (cellsA false (List.replicate 16 0)) 27)) 27 (cellsA true (List.replicate 16 0)); rw [World.size_alloc] at this; exact this)
    have HCE := Lib.hid hcell
    have HB := Lib.hid ((((Below.refl w.heap.size w).alloc (Nat.le_refl _) (.cells (cellsA false (List.replicate 16 0)) 27)).alloc (by simp) (.cells (cellsA true (List.replicate 16 0)) 27)))
    clear hcell hcell0 hz hcs
    rw [HL.out]
    clear d4
    have d4 : (((4 : Int)) != 4) = false := by rfl
    clear d4
    go_enter Try.func47, Try.ntmps47
    go_wp2_with ((with_reducible refine wpList_copy_splice (o := ⟨some 21, _, _, _, _, _⟩) rfl (.tmp 19) (.tmp 20) 22 22 rfl 5 Try.underlying22 info5_size _ _ _ _ _ _ rfl rfl (w.heap.size + 1) 1 (cellsA true (List.replicate 16 0)).toList 27 ?cg16 (nus .u8 bs) ?cn16 ?cp16 ?cf16 ?co16 (w.heap.size + 1) _ (Below.refl _ _) (Nat.le_refl _) ?_))
    case cg16 => rw [Array.toArray_toList]; exact HN.out
    case cn16 => rw [nus_length, HL.out]; rfl
    case cp16 =>
      intro _ j u hj
      have hjl : j < bs.length := by have := (List.getElem?_eq_some_iff.1 hj).1; rwa [nus_length] at this
      rw [nus_get _ _ _ hjl] at hj
      cases hj
      exact HCE.out j hjl
    case cf16 => rw [nus_length, HL.out]; decide
    case co16 => exact oneCell_nus _ _
    intro W2 hg2 hb2
    have h2 : W2.heap[w.heap.size + 1]? = some (.cells (splice (cellsA true (List.replicate 16 0)).toList 1 (nus .u8 bs)).toArray 27 (0, 0)) := hg2.out
    rw [HSP.out] at h2
    have HW2 := Lib.hid (show Blk W2 (w.heap.size + 1) 27 cs from h2)
    have HO2 := Lib.hid (show Blk W2 w.heap.size 27 (cellsA false (List.replicate 16 0)) from (hb2.block _ (Nat.lt_succ_self _)).trans HO.out)
    have HB2 := Lib.hid (HB.out.trans (hb2.mono (Nat.le_succ _)))
    clear h2 hg2 hb2
    go_wp2_with (first
      | ((with_reducible refine wpList_blk_load (op := ⟨some 22, .load 27 (.tmp 4), _, _, _, _⟩) ?lg2 27 (.tmp 4) ?lo2 (w.heap.size + 1) ?lx2 _ HW2.out Try.underlying27 ?ld2 HZ.out ?_); (case lg2 => rfl); (case lo2 => rfl); (case lx2 => rfl); (case ld2 => rfl))
      | ((with_reducible refine wpList_blk_store (op := ⟨none, .store 27 (.tmp 2) (.tmp 22), _, _, _, _⟩) ?sg2 27 (.tmp 2) (.tmp 22) ?so2 w.heap.size cs ?sx2 ?sy2 HO2.out HZ2.out HZ.out HAll.out ?_); (case sg2 => rfl); (case so2 => rfl); (case sx2 => rfl); (case sy2 => rfl)))
    intro w3 hA hF hB
    have HF := Lib.hid hF
    have HA := Lib.hid hA
    clear hF hA
    go_wp2
    have hrun := run_blk_load (P := Try.prog) 27 w.heap.size _ HA.out Try.underlying27 rfl HZ.out
    refine bodyPost_ret (results_cell_tmp 2 27 3 w.heap.size _ Try.results47 rfl hrun) rfl ⟨?_, HB2.out.trans (hB _ (Nat.le_refl _))⟩
    rw [HC.out, HL.out]
    rfl
end Go.Proofs.Ytnpibdjfafpegaa
namespace Go.Proofs.Ytnpibdjfafpegaa
open Go.RowKit
set_option maxRecDepth 100000 in
set_option maxHeartbeats 1000000 in
theorem make4_no (six1 six2 : Bool) (sb db : List Nat) (p : Int) (n : Int) (w : World) (h : ¬ mk4Ok six1 six2 n) :
    Calls Try.prog 43 #[adr six1 sb, adr six2 db, .int .u8 p, .int .i64 n] w fun e w' => e = .returned (.tuple #[.slice none 0 0, .bool false]) ∧ Below w.heap.size w w' := by
  unfold adr
  have e1 : (cellsA six1 sb)[0]? = some (.bool six1) := cellsA_head _ _
  have e2 : (cellsA six2 db)[0]? = some (.bool six2) := cellsA_head _ _
  generalize cellsA six1 sb = c1 at *
  generalize cellsA six2 db = c2 at *
  have B1 := (Below.refl w.heap.size w).alloc (Nat.le_refl _) (.cells c1 27)
  have HB := Lib.hid (B1.alloc B1.size (.cells c2 27))
  have hc1 := (((Blk.new w 27 c1).alloc (.cells c2 27)).cell 0).trans e1
  have hc2 := ((Blk.new (w.alloc (.cells c1 27)) 27 c2).cell 0).trans e2
  rw [World.size_alloc] at hc2
  unfold mk4Ok at h
  clear e1 e2 B1
  go_enter Try.func43, Try.ntmps43
  cases six1 with
  | true =>
    clear h
    go_wp2
    go_ret2
    exact ⟨rfl, HB.out⟩
  | false =>
    cases six2 with
    | true =>
      clear h
      go_wp2
      go_ret2
      exact ⟨rfl, HB.out⟩
    | false =>
      by_cases h0 : n < 0
      · clear h
        go_wp2
        go_ret2
        exact ⟨rfl, HB.out⟩
      · have h5 : 65515 < n := by
          rcases Int.lt_or_le 65515 n with h' | h'
          · exact h'
          · exact absurd ⟨rfl, rfl, by omega, h'⟩ h
        clear h
        go_wp2
        go_ret2
        exact ⟨rfl, HB.out⟩
set_option maxRecDepth 100000 in
set_option maxHeartbeats 4000000 in
theorem make4_yes (sb db : List Nat) (p n : Nat) (w : World) (hl1 : sb.length = 16) (hl2 : db.length = 16) (hb1 : ∀ c ∈ sb, c < 256) (hb2 : ∀ c ∈ db, c < 256) (hp : p < 256) (hn : n ≤ 65515) :
    Calls Try.prog 43 #[adr false sb, adr false db, .int .u8 (p : Int), .int .i64 (n : Int)] w fun e w' => ∃ x, e = .returned (.tuple #[x, .bool true]) ∧ w'.ownsRow w.heap.size 5 1 x 20 (nus .u8 (mk4 (sb.take 4) (db.take 4) p n)) ∧ Below w.heap.size w w' := by
  have l1 : (sb.take 4).length = 4 := by simp [hl1]
  have l2 : (db.take 4).length = 4 := by simp [hl2]
  have CS := Lib.hid (fun w' => bytes_own false sb hl1 w')
  have CD := Lib.hid (fun w' => bytes_own false db hl2 w')
  unfold bytesA at CS CD
  rw [if_neg (by decide), l1] at CS
  rw [if_neg (by decide), l2] at CD
  unfold adr at CS CD ⊢
  have e1 : (cellsA false sb)[0]? = some (.bool false) := cellsA_head _ _
  have e2 : (cellsA false db)[0]? = some (.bool false) := cellsA_head _ _
  have z1 : (cellsA false sb).size = 17 := by rw [cellsA_size, hl1]
  have z2 : (cellsA false db).size = 17 := by rw [cellsA_size, hl2]
  have I1 := Lib.hid (i24.trans (congrArg some z1.symm))
  have I2 := Lib.hid (i24.trans (congrArg some z2.symm))
  have HM := Lib.hid (mk0_steps (sb.take 4) (db.take 4) l1 l2 p n)
  have HML := Lib.hid (mk0_length (sb.take 4) (db.take 4) l1 l2 p n)
  have HMB := Lib.hid (mk0_lt (sb.take 4) (db.take 4) p n (fun c hc => hb1 c (List.mem_of_mem_take hc)) (fun c hc => hb2 c (List.mem_of_mem_take hc)) hp)
  have HR : Hid (mk4 (sb.take 4) (db.take 4) p n = putRow (mk0 (sb.take 4) (db.take 4) p n) 10 2 (ck (mk0 (sb.take 4) (db.take 4) p n)) 2) := by
    show _ = _
    rw [put_ov]; rfl
  have L1 := Lib.hid l1
  have L2 := Lib.hid l2
  have hck := ck_le (mk0 (sb.take 4) (db.take 4) p n)
  generalize mk4 (sb.take 4) (db.take 4) p n = RES at *
  generalize mk0 (sb.take 4) (db.take 4) p n = M at *
  generalize sb.take 4 = Sb at *
  generalize db.take 4 = Db at *
  generalize cellsA false sb = c1 at *
  generalize cellsA false db = c2 at *
  have B1 := (Below.refl w.heap.size w).alloc (Nat.le_refl _) (.cells c1 27)
  have KA := B1.alloc B1.size (.cells c2 27)
  have n1 := (Blk.new w 27 c1).alloc (.cells c2 27)
  have n2 := Blk.new (w.alloc (.cells c1 27)) 27 c2
  rw [World.size_alloc] at n2
  have hc1 := (n1.cell 0).trans e1
  have hc2 := (n2.cell 0).trans e2
  have N1 := Lib.hid n1
  have N2 := Lib.hid n2
  have K0 := Lib.hid KA
  have hbase := K0.out.size
  obtain ⟨i0, hi, hz0, hz1, hz2⟩ := info_parts Try.info5
  have hnw : IntKind.u16.wrap (20 + (n : Int)) = ((20 + n : Nat) : Int) := by rw [IntKind.wrap_u16]; omega
  clear e1 e2 z1 z2 l1 l2 hl1 hl2 hb1 hb2 B1 KA n1 n2
  go_enter Try.func43, Try.ntmps43
  go_wp2_with (at_make; refine wpList_make_full _ rfl _ _ 22 rfl w.heap.size 5 i0 (.int .u8 0) 1 Try.underlying22 hi hz0 hz1 .i64 .i64 _ _ 20 rfl rfl ?c1 ?c2 ?c3 ?c4 hbase ?_)
  case c1 => omega
  case c2 => omega
  case c3 => rw [hz2]; omega
  case c4 => unfold maxLen; omega
  intro w1 o1 g1
  rw [toList_madeCells_one] at o1
  have O1 := Lib.hid (show w1.ownsRow w.heap.size 5 1 _ 20 (nus .u8 (List.replicate 20 0)) from o1)
  have K1 := Lib.hid (K0.out.grown g1 hbase (fun k hk => by cases hk))
  obtain ⟨g, hg⟩ : ∃ g, g = w.heap.size + 1 + 1 := ⟨_, rfl⟩
  rw [← hg] at O1 ⊢
  have hgl : w.heap.size ≤ g := by omega
  have hg1 : w.heap.size < g := by omega
  have hg2 : w.heap.size + 1 < g := by omega
  have N1 := Lib.hid (show Blk w1 w.heap.size 27 c1 from (g1.block _ N1.out.lt (by simp)).trans N1.out)
  have N2 := Lib.hid (show Blk w1 (w.heap.size + 1) 27 c2 from (g1.block _ N2.out.lt (by simp)).trans N2.out)
  have hgw : g ≤ w1.heap.size := Nat.le_of_lt (own_in O1.out)
  clear o1 g1 hi hz0 hz1 hz2 hg hc1 hc2
  have c0 := O1.out.cellAt 0 (by omega)
  rw [nus_get _ _ _ (by simp)] at c0
  have f0 := O1.out.frozenAt 0
  have hst := O1.out.stored 0 (.int .u8 ((69 : Nat) : Int))
  rw [nus_set] at hst
  have hst : (w1.setCell ⟨g, 0, none⟩ (.int .u8 69)).ownsRow w.heap.size 5 1 (.slice (some ⟨g, 0, none⟩) 20 20) 20 (nus .u8 ((List.replicate 20 0).set 0 69)) ∧ w1.grownBy (w1.setCell ⟨g, 0, none⟩ (.int .u8 69)) (some g) := hst
  have HST := Lib.hid hst
  clear hst
  have h20m : 20 ≤ maxLen := by simp [maxLen]
  go_wp2_with fail
  have O2 := Lib.hid HST.out.1
  have K2 := Lib.hid ((Below.refl g w1).grown HST.out.2 hgw (fun k e => by cases e; exact Nat.le_refl _))
  generalize w1.setCell ⟨g, 0, none⟩ (.int .u8 69) = w2 at O2 K2 ⊢
  clear HST c0 f0 O1
  refine (put16_yes g 20 20 w.heap.size 2 (20 + n) _ w2 O2.out h20m (by omega) (by omega)).mono ?_
  rintro e w3 ⟨rfl, o3, g3⟩
  have O3 := Lib.hid o3
  have K3 := Lib.hid (K2.out.grown g3 (Nat.le_trans hgw K2.out.size) (fun k e => by cases e; exact Nat.le_refl _))
  clear o3 g3 O2 K2
  go_wp2_with fail
  refine (put16_yes g 20 20 w.heap.size 6 16384 _ w3 O3.out h20m (by omega) (by omega)).mono ?_
  rintro e w4 ⟨rfl, o4, g4⟩
  have O4 := Lib.hid o4
  have K4 := Lib.hid (K3.out.grown g4 (Nat.le_trans hgw K3.out.size) (fun k e => by cases e; exact Nat.le_refl _))
  clear o4 g4 O3 K3
  have hrl : (putRow (putRow ((List.replicate 20 0).set 0 69) 2 2 (20 + n) 2) 6 2 16384 2).length = 20 := by
    rw [putRow_length _ _ _ _ _ (by rw [putRow_length _ _ _ _ _ (by simp) (by omega)]; simp) (by omega), putRow_length _ _ _ _ _ (by simp) (by omega)]; simp
  have HRL := Lib.hid hrl
  clear hrl
  obtain ⟨Z, hZ⟩ : ∃ Z, Z = putRow (putRow ((List.replicate 20 0).set 0 69) 2 2 (20 + n) 2) 6 2 16384 2 := ⟨_, rfl⟩
  rw [← hZ] at O4 HM HRL
  clear hZ
  have c8 := O4.out.cellAt 8 (by omega)
  have c9 := O4.out.cellAt 9 (by omega)
  rw [nus_get _ _ _ (by rw [HRL.out]; omega)] at c8 c9
  have f8 := O4.out.frozenAt 8
  have f9 := O4.out.frozenAt 9
  have hst := O4.out.stored 8 (.int .u8 ((64 : Nat) : Int))
  rw [nus_set] at hst
  have hst2 := hst.1.stored 9 (.int .u8 (p : Int))
  rw [nus_set] at hst2
  have HST := Lib.hid hst
  have HST2 := Lib.hid (show ((w4.setCell ⟨g, 8, none⟩ (.int .u8 64)).setCell ⟨g, 9, none⟩ (.int .u8 (p : Int))).ownsRow w.heap.size 5 1 (.slice (some ⟨g, 0, none⟩) 20 20) 20 (nus .u8 ((Z.set 8 64).set 9 p)) ∧ (w4.setCell ⟨g, 8, none⟩ (.int .u8 64)).grownBy ((w4.setCell ⟨g, 8, none⟩ (.int .u8 64)).setCell ⟨g, 9, none⟩ (.int .u8 (p : Int))) (some g) from hst2)
  have K5 := Lib.hid (show Below g w1 (w4.setCell ⟨g, 8, none⟩ (.int .u8 64)) from K4.out.grown hst.2 (Nat.le_trans hgw K4.out.size) (fun k e => by cases e; exact Nat.le_refl _))
  clear hst hst2
  generalize Z.getD 8 0 = y8 at c8
  generalize Z.getD 9 0 = y9 at c9
  go_wp2_with fail
  have O6 := Lib.hid HST2.out.1
  have K6 := Lib.hid (K5.out.grown HST2.out.2 (Nat.le_trans hgw K5.out.size) (fun k e => by cases e; exact Nat.le_refl _))
  generalize (w4.setCell ⟨g, 8, none⟩ (.int .u8 64)).setCell ⟨g, 9, none⟩ (.int .u8 (p : Int)) = w6 at O6 K6 ⊢
  clear HST HST2 c8 c9 f8 f9 K5 K4 O4
  refine wp_region_held (S := (fun w' : World => Below g w1 w')) (by kernel_rfl) ?_
  change wpAnyH _ _ _ _ _ _ _ _ w6.drew
  have hE0 : Below g w1 w6.drew := K6.out.drew
  have qP6 := row_under O6.out (show Below w6.heap.size w6 w6.drew from (Below.refl _ _).drew)
  generalize w6.drew = Y0 at hE0 qP6 ⊢
  have E0 := Lib.hid hE0
  have P6 := Lib.hid qP6
  clear hE0 qP6
  refine tkA 0 (?_) ?_ E0.out ?_
  rotate_left
  · (intro w1 hS; go_simp; try with_reducible rfl)
  simp only [Act.put, tS1, tS2, tS3]
  refine tkA 1 (?_) ?_ E0.out ?_
  rotate_left
  · (intro w1 hS; have hW := hS; have q : (12 : Int) ≤ (20 : Int) := (by omega); clear hW hS; go_simp; try with_reducible rfl)
  simp only [Act.put, tS1, tS2, tS3]
  refine tkA 2 (.agg c1) ?_ E0.out ?_
  · (intro w1 hS; have hW := hS; exact exec_load 27 (.tmp 4) rfl _ rfl _ (run_blk_load (P := Try.prog) 27 w.heap.size _ (N1.out.below hW hg1) Try.underlying27 rfl I1.out))
  simp only [Act.put, tS1, tS2, tS3]
  refine tkO 3 (fun K hK => ?_)
  go_simp
  refine (CS.out Y0).mono ?_
  rintro e Y1 ⟨z, rfl, hz, hy⟩
  have E1 := Lib.hid (E0.out.trans (hy.mono (Nat.le_trans hgw E0.out.size)))
  have C1 := Lib.hid E1.out
  have Q6 := Lib.hid (row_under P6.out hy)
  have ZZ := Lib.hid hz
  clear hz P6
  clear hy E0
  refine hK.out _ _ C1.out (fun _ => ?_)
  clear hK K
  try simp only [Act.put, tS1, tS2, tS3]
  clear C1
  obtain ⟨gz, cz, rfl, -, -, -, -⟩ := own_at ZZ.out (by omega)
  refine tkO 4 (fun K hK => ?_)
  rw [if_pos (by rfl)]
  refine wp_copy_into (.tmp 41) (.tmp 43) 22 22 rfl 5 Try.underlying22 Try.size5 g 12 20 20 w.heap.size 8 8 5 .u8 ((Z.set 8 64).set 9 p) Sb (some ⟨gz, 0, none⟩) 4 cz rfl rfl Q6.out (Rd.own ZZ.out) (by omega) (by omega) (by omega) ?_
  intro v6 o6 g6
  have O7 := o6
  have K7 := Lib.hid (E1.out.grown g6 (Nat.le_trans hgw E1.out.size) (fun k e => by cases e; exact Nat.le_refl _))
  clear ZZ o6 g6 Q6 E1
  refine hK.out _ _ K7.out (fun _ => ?_)
  clear hK K
  try simp only [Act.put, tS1, tS2, tS3]
  refine wpAnyH_done (by kernel_rfl) ?_ _
  go_wp2_with fail
  refine wp_region_held (S := (fun w' : World => Below g w1 w')) (by kernel_rfl) ?_
  change wpAnyH _ _ _ _ _ _ _ _ v6.drew
  have hE0 : Below g w1 v6.drew := K7.out.drew
  have qP7 := row_under O7.out (show Below v6.heap.size v6 v6.drew from (Below.refl _ _).drew)
  generalize v6.drew = Y0 at hE0 qP7 ⊢
  have E0 := Lib.hid hE0
  have P7 := Lib.hid qP7
  clear hE0 qP7
  refine tkA 0 (?_) ?_ E0.out ?_
  rotate_left
  · (intro w1 hS; go_simp; try with_reducible rfl)
  simp only [Act.put, tS1, tS2, tS3]
  refine tkA 1 (?_) ?_ E0.out ?_
  rotate_left
  · (intro w1 hS; have hW := hS; have q : (16 : Int) ≤ (20 : Int) := (by omega); clear hW hS; go_simp; try with_reducible rfl)
  simp only [Act.put, tS1, tS2, tS3]
  refine tkA 2 (.agg c2) ?_ E0.out ?_
  · (intro w1 hS; have hW := hS; exact exec_load 27 (.tmp 5) rfl _ rfl _ (run_blk_load (P := Try.prog) 27 (w.heap.size + 1) _ (N2.out.below hW hg2) Try.underlying27 rfl I2.out))
  simp only [Act.put, tS1, tS2, tS3]
  refine tkO 3 (fun K hK => ?_)
  go_simp
  refine (CD.out Y0).mono ?_
  rintro e Y1 ⟨z, rfl, hz, hy⟩
  have E1 := Lib.hid (E0.out.trans (hy.mono (Nat.le_trans hgw E0.out.size)))
  have C1 := Lib.hid E1.out
  have Q7 := Lib.hid (row_under P7.out hy)
  have ZZ := Lib.hid hz
  clear hz P7
  clear hy E0
  refine hK.out _ _ C1.out (fun _ => ?_)
  clear hK K
  try simp only [Act.put, tS1, tS2, tS3]
  clear C1
  obtain ⟨gz, cz, rfl, -, -, -, -⟩ := own_at ZZ.out (by omega)
  refine tkO 4 (fun K hK => ?_)
  rw [if_pos (by rfl)]
  refine wp_copy_into (.tmp 46) (.tmp 48) 22 22 rfl 5 Try.underlying22 Try.size5 g 16 20 20 w.heap.size 4 4 5 .u8 (ov ((Z.set 8 64).set 9 p) Sb 12) Db (some ⟨gz, 0, none⟩) 4 cz rfl rfl Q7.out (Rd.own ZZ.out) (by omega) (by omega) (by omega) ?_
  intro v7 o7 g7
  have O8 := o7
  have K8 := Lib.hid (E1.out.grown g7 (Nat.le_trans hgw E1.out.size) (fun k e => by cases e; exact Nat.le_refl _))
  clear ZZ o7 g7 Q7 E1
  refine hK.out _ _ K8.out (fun _ => ?_)
  clear hK K
  try simp only [Act.put, tS1, tS2, tS3]
  refine wpAnyH_done (by kernel_rfl) ?_ _
  rw [HM.out] at O8
  go_wp2_with fail
  refine (check_any _ M _ (Rd.own O8.out) (by rw [HML.out]; omega) HMB.out).mono ?_
  rintro e w9 ⟨rfl, hy⟩
  have O9 := Lib.hid (row_under O8.out hy)
  have K9 := Lib.hid (K8.out.trans (hy.mono (Nat.le_trans hgw K8.out.size)))
  clear hy O8 K8
  go_wp2_with fail
  refine (put16_yes g 20 20 w.heap.size 10 _ _ w9 O9.out h20m (by omega) (by omega)).mono ?_
  rintro e w10 ⟨rfl, o10, g10⟩
  have O10 := Lib.hid o10
  have K10 := Lib.hid (K9.out.grown g10 (Nat.le_trans hgw K9.out.size) (fun k e => by cases e; exact Nat.le_refl _))
  clear o10 g10 O9 K9
  rw [← HR.out] at O10
  go_wp2
  go_ret2
  exact ⟨_, rfl, O10.out, K1.out.trans (K10.out.mono hgl)⟩
end Go.Proofs.Ytnpibdjfafpegaa
namespace Go.Proofs.Ytnpibdjfafpegaa
open Go.RowKit
set_option maxRecDepth 100000 in
set_option maxHeartbeats 1000000 in
theorem make6_no (six1 six2 : Bool) (sb db : List Nat) (p : Int) (n : Int) (w : World) (h : mkOk six1 six2 n = false) :
    Calls Try.prog 42 #[adr six1 sb, adr six2 db, .int .u8 p, .int .i64 n] w fun e w' => e = .returned (.tuple #[.slice none 0 0, .bool false]) ∧ Below w.heap.size w w' := by
  unfold adr
  have e1 : (cellsA six1 sb)[0]? = some (.bool six1) := cellsA_head _ _
  have e2 : (cellsA six2 db)[0]? = some (.bool six2) := cellsA_head _ _
  generalize cellsA six1 sb = c1 at *
  generalize cellsA six2 db = c2 at *
  have B1 := (Below.refl w.heap.size w).alloc (Nat.le_refl _) (.cells c1 27)
  have HB := Lib.hid (B1.alloc B1.size (.cells c2 27))
  have hc1 := (((Blk.new w 27 c1).alloc (.cells c2 27)).cell 0).trans e1
  have hc2 := ((Blk.new (w.alloc (.cells c1 27)) 27 c2).cell 0).trans e2
  rw [World.size_alloc] at hc2
  unfold mkOk at h
  clear e1 e2 B1
  go_enter Try.func42, Try.ntmps42
  cases six1 with
  | false =>
    clear h
    go_wp2
    go_ret2
    exact ⟨rfl, HB.out⟩
  | true =>
    cases six2 with
    | false =>
      clear h
      go_wp2
      go_ret2
      exact ⟨rfl, HB.out⟩
    | true =>
      by_cases h0 : n < 0
      · clear h
        go_wp2
        go_ret2
        exact ⟨rfl, HB.out⟩
      · have h5 : 65535 < n := by
          rcases Int.lt_or_le 65535 n with h' | h'
          · exact h'
          · simp at h; omega
        clear h
        go_wp2
        go_ret2
        exact ⟨rfl, HB.out⟩
set_option maxRecDepth 100000 in
set_option maxHeartbeats 4000000 in
theorem make6_yes (sb db : List Nat) (p n : Nat) (w : World) (hl1 : sb.length = 16) (hl2 : db.length = 16) (hn : n ≤ 65535) :
    Calls Try.prog 42 #[adr true sb, adr true db, .int .u8 (p : Int), .int .i64 (n : Int)] w fun e w' => ∃ x, e = .returned (.tuple #[x, .bool true]) ∧ w'.ownsRow w.heap.size 5 1 x 40 (nus .u8 (mk6 sb db p n)) ∧ Below w.heap.size w w' := by
  have CS := Lib.hid (fun w' => bytes_own true sb hl1 w')
  have CD := Lib.hid (fun w' => bytes_own true db hl2 w')
  unfold bytesA at CS CD
  rw [if_pos rfl, hl1] at CS
  rw [if_pos rfl, hl2] at CD
  unfold adr at CS CD ⊢
  have E1 := Lib.hid (show (cellsA true sb)[0]? = some (.bool true) from cellsA_head _ _)
  have E2 := Lib.hid (show (cellsA true db)[0]? = some (.bool true) from cellsA_head _ _)
  have z1 : (cellsA true sb).size = 17 := by rw [cellsA_size, hl1]
  have z2 : (cellsA true db).size = 17 := by rw [cellsA_size, hl2]
  have I1 := Lib.hid (i24.trans (congrArg some z1.symm))
  have I2 := Lib.hid (i24.trans (congrArg some z2.symm))
  have HM := Lib.hid (mk6_steps sb db hl1 hl2 p n)
  have hl1' := Lib.hid hl1
  have hl2' := Lib.hid hl2
  generalize mk6 sb db p n = M at *
  generalize cellsA true sb = c1 at *
  generalize cellsA true db = c2 at *
  have K := Lib.hid (Below.refl w.heap.size w)
  have hnw : IntKind.u16.wrap (n : Int) = (n : Int) := by rw [IntKind.wrap_u16]; omega
  clear z1 z2 hl1 hl2
  go_enter Try.func42, Try.ntmps42
  have hal := (Below.refl w.heap.size w).alloc (Nat.le_refl _) (.cells c1 27)
  replace K := Lib.hid (K.out.trans (hal.mono K.out.size))
  have N1 := Lib.hid (Blk.new w 27 c1)
  clear hal
  have hal := (Below.refl (w.alloc (.cells c1 27)).heap.size (w.alloc (.cells c1 27))).alloc (Nat.le_refl _) (.cells c2 27)
  replace K := Lib.hid (K.out.trans (hal.mono K.out.size))
  replace N1 := Lib.hid (N1.out.below hal N1.out.lt)
  have N2q := Blk.new (w.alloc (.cells c1 27)) 27 c2
  simp only [World.size_alloc] at N2q
  have N2 := Lib.hid N2q
  clear N2q
  clear hal
  have hc1 := (N1.out.cell 0).trans E1.out
  have hc2 := (N2.out.cell 0).trans E2.out
  obtain ⟨i0, hi, hz0, hz1, hz2⟩ := info_parts Try.info5
  have hbase : w.heap.size ≤ ((w.alloc (.cells c1 27)).alloc (.cells c2 27)).heap.size := K.out.size
  go_wp2_with ((at_make; refine wpList_make_full _ rfl _ _ 22 rfl w.heap.size 5 i0 (.int .u8 0) 1 Try.underlying22 hi hz0 hz1 .i64 .i64 _ _ 40 rfl rfl ?mk1a ?mk1b ?mk1c ?mk1d hbase ?_))
  generalize ((w.alloc (.cells c1 27)).alloc (.cells c2 27)) = V1 at *
  case mk1a => omega
  case mk1b => omega
  case mk1c => rw [hz2]; omega
  case mk1d => unfold maxLen; omega
  intro V2 o1 g1
  rw [toList_madeCells_one] at o1
  replace K := Lib.hid (K.out.grown g1 K.out.size (fun k e => by first | (cases e; done) | (cases e; first | exact Nat.le_refl _ | omega)))
  replace N1 := Lib.hid (show Blk _ _ _ _ from (g1.block _ N1.out.lt (by first | (simp; done) | (simp; omega))).trans N1.out)
  replace N2 := Lib.hid (show Blk _ _ _ _ from (g1.block _ N2.out.lt (by first | (simp; done) | (simp; omega))).trans N2.out)
  have O := Lib.hid (show V2.ownsRow w.heap.size 5 1 _ 40 (nus .u8 (List.replicate 40 0)) from o1)
  clear o1 g1 hi hz0 hz1 hz2 hbase
  obtain ⟨g, hg⟩ : ∃ g, g = w.heap.size + 1 + 1 := ⟨_, rfl⟩
  rw [← hg] at O ⊢
  have hg1 : w.heap.size < g := by omega
  have hg2 : w.heap.size + 1 < g := by omega
  clear hg hc1 hc2 E1 E2
  have h40m : 40 ≤ maxLen := by simp [maxLen]
  have L0 : Hid ((List.replicate 40 0).length = 40) := by show _ = _; simp
  have c0x := O.out.cellAt 0 (by omega)
  rw [nus_get _ _ _ (by have q := L0.out; omega)] at c0x
  have f0x := O.out.frozenAt 0
  generalize List.getD (List.replicate 40 0) 0 0 = y0x at c0x
  have hst0 := O.out.stored 0 (.int .u8 ((96 : Nat) : Int))
  rw [nus_set] at hst0
  have hst0 : (V2.setCell ⟨g, 0, none⟩ (.int .u8 96)).ownsRow w.heap.size 5 1 (.slice (some ⟨g, 0, none⟩) 40 40) 40 (nus .u8 (((List.replicate 40 0)).set 0 96)) ∧ V2.grownBy (V2.setCell ⟨g, 0, none⟩ (.int .u8 96)) (some g) := hst0
  have HST0 := Lib.hid hst0
  clear hst0
  go_wp2_with fail
  have gr := HST0.out.2
  replace K := Lib.hid (K.out.grown gr K.out.size (fun k e => by first | (cases e; done) | (cases e; first | exact Nat.le_refl _ | omega)))
  replace N1 := Lib.hid (show Blk _ _ _ _ from (gr.block _ N1.out.lt (by first | (simp; done) | (simp; omega))).trans N1.out)
  replace N2 := Lib.hid (show Blk _ _ _ _ from (gr.block _ N2.out.lt (by first | (simp; done) | (simp; omega))).trans N2.out)
  replace O := Lib.hid HST0.out.1
  clear gr HST0 c0x f0x
  generalize (V2.setCell ⟨g, 0, none⟩ (.int .u8 96)) = V3 at *
  go_wp2_with fail
  refine (put16_yes g 40 40 w.heap.size 4 n _ V3 O.out h40m (by omega) (by omega)).mono ?_
  rintro e V4 ⟨rfl, og, gr⟩
  replace K := Lib.hid (K.out.grown gr K.out.size (fun k e => by first | (cases e; done) | (cases e; first | exact Nat.le_refl _ | omega)))
  replace N1 := Lib.hid (show Blk _ _ _ _ from (gr.block _ N1.out.lt (by first | (simp; done) | (simp; omega))).trans N1.out)
  replace N2 := Lib.hid (show Blk _ _ _ _ from (gr.block _ N2.out.lt (by first | (simp; done) | (simp; omega))).trans N2.out)
  replace O := Lib.hid og
  clear og gr
  have hL : (putRow ((List.replicate 40 0).set 0 96) 4 2 n 2).length = 40 := by rw [putRow_length _ _ _ _ _ (by simp) (by omega)]; simp
  have L1 := Lib.hid hL
  clear hL
  generalize putRow ((List.replicate 40 0).set 0 96) 4 2 n 2 = Z at *
  have c6x := O.out.cellAt 6 (by omega)
  rw [nus_get _ _ _ (by have q := L1.out; omega)] at c6x
  have f6x := O.out.frozenAt 6
  generalize List.getD Z 6 0 = y6x at c6x
  have c7x := O.out.cellAt 7 (by omega)
  rw [nus_get _ _ _ (by have q := L1.out; omega)] at c7x
  have f7x := O.out.frozenAt 7
  generalize List.getD Z 7 0 = y7x at c7x
  have hst0 := O.out.stored 6 (.int .u8 ((p : Nat) : Int))
  rw [nus_set] at hst0
  have hst0 : (V4.setCell ⟨g, 6, none⟩ (.int .u8 (p : Int))).ownsRow w.heap.size 5 1 (.slice (some ⟨g, 0, none⟩) 40 40) 40 (nus .u8 ((Z).set 6 p)) ∧ V4.grownBy (V4.setCell ⟨g, 6, none⟩ (.int .u8 (p : Int))) (some g) := hst0
  have HST0 := Lib.hid hst0
  clear hst0
  have hst1 := HST0.out.1.stored 7 (.int .u8 ((64 : Nat) : Int))
  rw [nus_set] at hst1
  have hst1 : ((V4.setCell ⟨g, 6, none⟩ (.int .u8 (p : Int))).setCell ⟨g, 7, none⟩ (.int .u8 64)).ownsRow w.heap.size 5 1 (.slice (some ⟨g, 0, none⟩) 40 40) 40 (nus .u8 ((((Z).set 6 p)).set 7 64)) ∧ (V4.setCell ⟨g, 6, none⟩ (.int .u8 (p : Int))).grownBy ((V4.setCell ⟨g, 6, none⟩ (.int .u8 (p : Int))).setCell ⟨g, 7, none⟩ (.int .u8 64)) (some g) := hst1
  have HST1 := Lib.hid hst1
  clear hst1
  go_wp2_with fail
  have gr := (grownBy_trans HST0.out.2 HST1.out.2)
  replace K := Lib.hid (K.out.grown gr K.out.size (fun k e => by first | (cases e; done) | (cases e; first | exact Nat.le_refl _ | omega)))
  replace N1 := Lib.hid (show Blk _ _ _ _ from (gr.block _ N1.out.lt (by first | (simp; done) | (simp; omega))).trans N1.out)
  replace N2 := Lib.hid (show Blk _ _ _ _ from (gr.block _ N2.out.lt (by first | (simp; done) | (simp; omega))).trans N2.out)
  replace O := Lib.hid HST1.out.1
  clear gr HST0 HST1 c6x f6x c7x f7x
  generalize ((V4.setCell ⟨g, 6, none⟩ (.int .u8 (p : Int))).setCell ⟨g, 7, none⟩ (.int .u8 64)) = V5 at *
  have hlow : g ≤ V5.heap.size := Nat.le_of_lt (own_in O.out)
  go_wp2_with fail
  refine wp_region_held (S := (fun w' : World => Below (g) V5 w')) (by kernel_rfl) ?_
  change wpAnyH _ _ _ _ _ _ _ _ V5.drew
  have hy : Below V5.heap.size V5 V5.drew := (Below.refl _ _).drew
  have hE0 : Below (g) V5 V5.drew := (Below.refl _ _).drew
  replace O := Lib.hid (row_under O.out hy)
  clear hy
  generalize V5.drew = Y7x0 at hE0 O ⊢
  have E0 := Lib.hid hE0
  clear hE0
  refine tkA 0 (?_) ?_ E0.out ?_
  rotate_left
  · (intro w1 hS; go_simp; try with_reducible rfl)
  simp only [Act.put, tS1, tS2, tS3]
  refine tkA 1 (?_) ?_ E0.out ?_
  rotate_left
  · (intro w1 hS; have hW := hS; have q : (8 : Int) ≤ (40 : Int) := (by omega); clear hW hS; go_simp; try with_reducible rfl)
  simp only [Act.put, tS1, tS2, tS3]
  refine tkA 2 (.agg c1) ?_ E0.out ?_
  · (intro w1 hS; have hW := hS; exact exec_load 27 (.tmp 4) rfl _ rfl _ (run_blk_load (P := Try.prog) 27 (w.heap.size) _ (N1.out.below hW (by omega)) Try.underlying27 rfl I1.out))
  simp only [Act.put, tS1, tS2, tS3]
  refine tkO 3 (fun K hK => ?_)
  go_simp
  refine (CS.out Y7x0).mono ?_
  rintro e Y7x1 ⟨z, rfl, hz, hy⟩
  replace O := Lib.hid (row_under O.out hy)
  have E1 := Lib.hid (E0.out.trans (hy.mono (Nat.le_trans hlow E0.out.size)))
  have C1 := Lib.hid E1.out
  have Z1 := Lib.hid (hz)
  clear hz
  clear hy E0
  refine hK.out _ _ C1.out (fun _ => ?_)
  clear hK K
  clear C1
  try simp only [Act.put, tS1, tS2, tS3]
  obtain ⟨gz, cz, rfl, -, -, -, -⟩ := own_at Z1.out (by omega)
  refine tkO 4 (fun K hK => ?_)
  rw [if_pos (by rfl)]
  refine wp_copy_into (.tmp 40) (.tmp 42) 22 22 rfl 5 Try.underlying22 Try.size5 g 8 40 40 w.heap.size 32 32 5 .u8 _ sb (some ⟨gz, 0, none⟩) 16 cz rfl rfl O.out (Rd.own Z1.out) (by omega) (by omega) (by omega) ?_
  intro Y7x2 oz gz
  clear Z1
  replace O := oz
  have E2 := Lib.hid (E1.out.grown gz (Nat.le_trans hlow E1.out.size) (fun k e => by cases e; first | exact Nat.le_refl _ | omega))
  have C2 := Lib.hid E2.out
  clear gz E1
  refine hK.out _ _ C2.out (fun _ => ?_)
  clear hK K
  clear C2
  try simp only [Act.put, tS1, tS2, tS3]
  refine wpAnyH_done (by kernel_rfl) ?_ _
  replace K := Lib.hid (K.out.trans (E2.out.mono (by omega)))
  replace N1 := Lib.hid (N1.out.below E2.out (by omega))
  replace N2 := Lib.hid (N2.out.below E2.out (by omega))
  clear E2
  replace hlow : g ≤ Y7x2.heap.size := Nat.le_of_lt (own_in O.out)
  go_wp2_with fail
  refine wp_region_held (S := (fun w' : World => Below (g) Y7x2 w')) (by kernel_rfl) ?_
  change wpAnyH _ _ _ _ _ _ _ _ Y7x2.drew
  have hy : Below Y7x2.heap.size Y7x2 Y7x2.drew := (Below.refl _ _).drew
  have hE0 : Below (g) Y7x2 Y7x2.drew := (Below.refl _ _).drew
  replace O := Lib.hid (row_under O.out hy)
  clear hy
  generalize Y7x2.drew = Y8x0 at hE0 O ⊢
  have E0 := Lib.hid hE0
  clear hE0
  refine tkA 0 (?_) ?_ E0.out ?_
  rotate_left
  · (intro w1 hS; go_simp; try with_reducible rfl)
  simp only [Act.put, tS1, tS2, tS3]
  refine tkA 1 (?_) ?_ E0.out ?_
  rotate_left
  · (intro w1 hS; have hW := hS; have q : (24 : Int) ≤ (40 : Int) := (by omega); clear hW hS; go_simp; try with_reducible rfl)
  simp only [Act.put, tS1, tS2, tS3]
  refine tkA 2 (.agg c2) ?_ E0.out ?_
  · (intro w1 hS; have hW := hS; exact exec_load 27 (.tmp 5) rfl _ rfl _ (run_blk_load (P := Try.prog) 27 (w.heap.size + 1) _ (N2.out.below hW (by omega)) Try.underlying27 rfl I2.out))
  simp only [Act.put, tS1, tS2, tS3]
  refine tkO 3 (fun K hK => ?_)
  go_simp
  refine (CD.out Y8x0).mono ?_
  rintro e Y8x1 ⟨z, rfl, hz, hy⟩
  replace O := Lib.hid (row_under O.out hy)
  have E1 := Lib.hid (E0.out.trans (hy.mono (Nat.le_trans hlow E0.out.size)))
  have C1 := Lib.hid E1.out
  have Z2 := Lib.hid (hz)
  clear hz
  clear hy E0
  refine hK.out _ _ C1.out (fun _ => ?_)
  clear hK K
  clear C1
  try simp only [Act.put, tS1, tS2, tS3]
  obtain ⟨gz, cz, rfl, -, -, -, -⟩ := own_at Z2.out (by omega)
  refine tkO 4 (fun K hK => ?_)
  rw [if_pos (by rfl)]
  refine wp_copy_into (.tmp 45) (.tmp 47) 22 22 rfl 5 Try.underlying22 Try.size5 g 24 40 40 w.heap.size 16 16 5 .u8 _ db (some ⟨gz, 0, none⟩) 16 cz rfl rfl O.out (Rd.own Z2.out) (by omega) (by omega) (by omega) ?_
  intro Y8x2 oz gz
  clear Z2
  replace O := oz
  have E2 := Lib.hid (E1.out.grown gz (Nat.le_trans hlow E1.out.size) (fun k e => by cases e; first | exact Nat.le_refl _ | omega))
  have C2 := Lib.hid E2.out
  clear gz E1
  refine hK.out _ _ C2.out (fun _ => ?_)
  clear hK K
  clear C2
  try simp only [Act.put, tS1, tS2, tS3]
  refine wpAnyH_done (by kernel_rfl) ?_ _
  replace K := Lib.hid (K.out.trans (E2.out.mono (by omega)))
  replace N1 := Lib.hid (N1.out.below E2.out (by omega))
  replace N2 := Lib.hid (N2.out.below E2.out (by omega))
  clear E2
  rw [HM.out] at O
  go_wp2
  go_ret2
  exact ⟨_, rfl, O.out, K.out⟩
set_option maxRecDepth 100000 in
theorem make6_any (six1 six2 : Bool) (sb db : List Nat) (p : Nat) (n : Int) (w : World) (hl1 : sb.length = 16) (hl2 : db.length = 16) :
    Calls Try.prog 42 #[adr six1 sb, adr six2 db, .int .u8 (p : Int), .int .i64 n] w fun e w' => ∃ x, e = .returned (.tuple #[x, .bool (mkOk six1 six2 n)]) ∧ Rd w' x (nus .u8 (mOut six1 six2 sb db p n)) ∧ Below w.heap.size w w' := by
  unfold mOut
  by_cases h : mkOk six1 six2 n = true
  · have h' := h
    unfold mkOk at h'
    obtain ⟨rfl, rfl, h0, h1⟩ : six1 = true ∧ six2 = true ∧ 0 ≤ n ∧ n ≤ 65535 := by simpa [and_assoc] using h'
    obtain ⟨k, rfl⟩ := Int.eq_ofNat_of_zero_le h0
    rw [if_pos h, h]
    exact (make6_yes sb db p k w hl1 hl2 (by omega)).mono fun _ _ ⟨x, e, o, b⟩ => ⟨x, e, Rd.own o, b⟩
  · rw [if_neg h, Bool.eq_false_iff.2 h]
    exact (make6_no six1 six2 sb db p n w (Bool.eq_false_iff.2 h)).mono fun _ _ ⟨e, b⟩ => ⟨_, e, rd_nil _ _, b⟩
end Go.Proofs.Ytnpibdjfafpegaa
namespace Go.Proofs.Ytnpibdjfafpegaa
open Go.RowKit
def rowj (P S D : List Nat) (j : Nat) : List Nat := (List.range 20).map fun i => if 12 ≤ i ∧ i < 12 + j then S.getD (i - 12) 0 else if 16 ≤ i ∧ i < 16 + j then D.getD (i - 16) 0 else P.getD i 0
theorem rowj_length (P S D : List Nat) (j : Nat) : (rowj P S D j).length = 20 := by simp [rowj]
theorem rowj_get (P S D : List Nat) (j i : Nat) (h : i < 20) : (rowj P S D j).getD i 0 = if 12 ≤ i ∧ i < 12 + j then S.getD (i - 12) 0 else if 16 ≤ i ∧ i < 16 + j then D.getD (i - 16) 0 else P.getD i 0 := by
  simp [rowj, List.getD_eq_getElem?_getD, h]
theorem rowj_zero (P S D : List Nat) (h : P.length = 20) : rowj P S D 0 = P := by
  refine ext_getD _ _ 0 (by rw [rowj_length, h]) fun i hi => ?_
  rw [rowj_length] at hi
  rw [rowj_get P S D 0 i hi, if_neg (by omega), if_neg (by omega)]
theorem set_get (l : List Nat) (k i v : Nat) (h : i < l.length) : (l.set k v).getD i 0 = if k = i then v else l.getD i 0 := by
  simp only [List.getD_eq_getElem?_getD, List.getElem?_set]
  by_cases e : k = i
  · subst e
    rw [if_pos rfl, if_pos rfl, if_pos h]; rfl
  · rw [if_neg e, if_neg e]
theorem rowj_step (P S D : List Nat) (j : Nat) (h : j < 4) : ((rowj P S D j).set (12 + j) (S.getD j 0)).set (16 + j) (D.getD j 0) = rowj P S D (j + 1) := by
  refine ext_getD _ _ 0 (by simp [rowj_length]) fun i hi => ?_
  have hi : i < 20 := by simpa [rowj_length] using hi
  rw [set_get _ _ _ _ (by simp [rowj_length]; exact hi), set_get _ _ _ _ (by simp [rowj_length]; exact hi), rowj_get P S D j i hi, rowj_get P S D (j + 1) i hi]
  repeat' split
  all_goals first
    | rfl
    | (exfalso; omega)
    | (congr 1; omega)
theorem take4 (l : List Nat) (h : l.length = 16) : ∃ a b c d, l.take 4 = [a, b, c, d] ∧ l.getD 0 0 = a ∧ l.getD 1 0 = b ∧ l.getD 2 0 = c ∧ l.getD 3 0 = d := by
  obtain ⟨b0, b1, b2, b3, b4, b5, b6, b7, b8, b9, b10, b11, b12, b13, b14, b15, rfl⟩ := list16 l h
  exact ⟨b0, b1, b2, b3, rfl, rfl, rfl, rfl, rfl⟩
theorem rowj_all (sb db : List Nat) (p n : Nat) (h1 : sb.length = 16) (h2 : db.length = 16) (hn : n ≤ 65515) :
    rowj ((((((List.replicate 20 0).set 0 69).set 2 ((20 + n) / 256)).set (2 + 1) ((20 + n) % 256)).set 6 64).set 8 64 |>.set 9 p) sb db 4 = mk0 (sb.take 4) (db.take 4) p n := by
  obtain ⟨s0, s1, s2, s3, e1, a0, a1, a2, a3⟩ := take4 sb h1
  obtain ⟨d0, d1, d2, d3, e2, b0, b1, b2, b3⟩ := take4 db h2
  have e : (20 + n) / 256 % 256 = (20 + n) / 256 := by omega
  rw [e1, e2]
  unfold rowj
  simp [List.range_succ, mk0, bg, e, ← a0, ← a1, ← a2, ← a3, ← b0, ← b1, ← b2, ← b3]
set_option maxRecDepth 100000 in
set_option maxHeartbeats 4000000 in
theorem r4make_yes (sb db : List Nat) (p n : Nat) (w : World) (hl1 : sb.length = 16) (hl2 : db.length = 16) (hb1 : ∀ c ∈ sb, c < 256) (hb2 : ∀ c ∈ db, c < 256) (hp : p < 256) (hn : n ≤ 65515) :
    Calls Try.prog 18 #[adr false sb, adr false db, .int .u8 (p : Int), .int .i64 (n : Int)] w fun e w' => ∃ x, e = .returned (.tuple #[x, .bool true]) ∧ w'.ownsRow w.heap.size 5 1 x 20 (nus .u8 (mk4 (sb.take 4) (db.take 4) p n)) ∧ Below w.heap.size w w' := by
  have l1 : (sb.take 4).length = 4 := by simp [hl1]
  have l2 : (db.take 4).length = 4 := by simp [hl2]
  unfold adr
  have e1 : (cellsA false sb)[0]? = some (.bool false) := cellsA_head _ _
  have e2 : (cellsA false db)[0]? = some (.bool false) := cellsA_head _ _
  have G1 := Lib.hid (fun k (hk : k < 4) => cellsA_get false sb k (by omega))
  have G2 := Lib.hid (fun k (hk : k < 4) => cellsA_get false db k (by omega))
  have HM := Lib.hid (rowj_all sb db p n hl1 hl2 hn)
  have HML := Lib.hid (mk0_length (sb.take 4) (db.take 4) l1 l2 p n)
  have HMB := Lib.hid (mk0_lt (sb.take 4) (db.take 4) p n (fun c hc => hb1 c (List.mem_of_mem_take hc)) (fun c hc => hb2 c (List.mem_of_mem_take hc)) hp)
  have hck := ck_le (mk0 (sb.take 4) (db.take 4) p n)
  have hmd : ∀ M : List Nat, M.length = 20 → ck M < 65536 → (M.set 10 (ck M / 256)).set (10 + 1) (ck M % 256) = ov M (bg 2 (ck M)) 10 := fun M hM hc => by
    refine ext_getD _ _ 0 (by simp [ov_length, bg_length, hM]) fun i hi => ?_
    have hi : i < 20 := by simpa [hM] using hi
    rw [set_get _ _ _ _ (by simp [hM]; exact hi), set_get _ _ _ _ (by rw [hM]; exact hi), ov_get _ _ _ _ (by rw [bg_length, hM]; omega), bg_length]
    have e : ck M / 256 % 256 = ck M / 256 := by omega
    by_cases h1 : i = 10
    · subst h1; simp [bg, e]
    · by_cases h2 : i = 11
      · subst h2; simp [bg]
      · rw [if_neg (by omega), if_neg (by omega), if_neg (by omega)]
  have HR : Hid (mk4 (sb.take 4) (db.take 4) p n = ((mk0 (sb.take 4) (db.take 4) p n).set 10 (ck (mk0 (sb.take 4) (db.take 4) p n) / 256)).set (10 + 1) (ck (mk0 (sb.take 4) (db.take 4) p n) % 256)) := by
    show _ = _
    rw [hmd _ HML.out (by omega)]; rfl
  have HD1 := Lib.hid (getD_lt sb hb1)
  have HD2 := Lib.hid (getD_lt db hb2)
  generalize mk4 (sb.take 4) (db.take 4) p n = RES at *
  generalize mk0 (sb.take 4) (db.take 4) p n = M at *
  generalize cellsA false sb = c1 at *
  generalize cellsA false db = c2 at *
  have B1 := (Below.refl w.heap.size w).alloc (Nat.le_refl _) (.cells c1 27)
  have KA := B1.alloc B1.size (.cells c2 27)
  have n1 := (Blk.new w 27 c1).alloc (.cells c2 27)
  have n2 := Blk.new (w.alloc (.cells c1 27)) 27 c2
  rw [World.size_alloc] at n2
  have hc1 := (n1.cell 0).trans e1
  have hc2 := (n2.cell 0).trans e2
  have N1 := Lib.hid n1
  have N2 := Lib.hid n2
  have K0 := Lib.hid KA
  have hbase := K0.out.size
  obtain ⟨i0, hi, hz0, hz1, hz2⟩ := info_parts Try.info5
  have hnw : (20 + (n : Int)) = ((20 + n : Nat) : Int) := by omega
  clear e1 e2 l1 l2 hl1 hl2 hb1 hb2 B1 KA n1 n2 hmd hnw
  go_enter Try.func18, Try.ntmps18
  go_wp2_with (at_make; refine wpList_make_full _ rfl _ _ 22 rfl w.heap.size 5 i0 (.int .u8 0) 1 Try.underlying22 hi hz0 hz1 .i64 .i64 _ _ 20 rfl rfl ?c1 ?c2 ?c3 ?c4 hbase ?_)
  case c1 => omega
  case c2 => omega
  case c3 => rw [hz2]; omega
  case c4 => unfold maxLen; omega
  intro w1 o1 g1
  rw [toList_madeCells_one] at o1
  have O1 := Lib.hid (show w1.ownsRow w.heap.size 5 1 _ 20 (nus .u8 (List.replicate 20 0)) from o1)
  have K1 := Lib.hid (K0.out.grown g1 hbase (fun k hk => by cases hk))
  obtain ⟨g, hg⟩ : ∃ g, g = w.heap.size + 1 + 1 := ⟨_, rfl⟩
  rw [← hg] at O1 ⊢
  have hgl : w.heap.size ≤ g := by omega
  have hg1 : w.heap.size < g := by omega
  have hg2 : w.heap.size + 1 < g := by omega
  have N1 := Lib.hid (show Blk w1 w.heap.size 27 c1 from (g1.block _ N1.out.lt (by simp)).trans N1.out)
  have N2 := Lib.hid (show Blk w1 (w.heap.size + 1) 27 c2 from (g1.block _ N2.out.lt (by simp)).trans N2.out)
  have hgw : g ≤ w1.heap.size := Nat.le_of_lt (own_in O1.out)
  clear o1 g1 hi hz0 hz1 hz2 hg hc1 hc2
  have h20m : 20 ≤ maxLen := by simp [maxLen]
  have c0 := O1.out.cellAt 0 (by omega)
  rw [nus_get _ _ _ (by simp)] at c0
  have f0 := O1.out.frozenAt 0
  have hst := O1.out.stored 0 (.int .u8 ((69 : Nat) : Int))
  rw [nus_set] at hst
  have HST := Lib.hid (show (w1.setCell ⟨g, 0, none⟩ (.int .u8 69)).ownsRow w.heap.size 5 1 (.slice (some ⟨g, 0, none⟩) 20 20) 20 (nus .u8 ((List.replicate 20 0).set 0 69)) ∧ w1.grownBy (w1.setCell ⟨g, 0, none⟩ (.int .u8 69)) (some g) from hst)
  clear hst
  go_wp2_with fail
  have O2 := Lib.hid HST.out.1
  have K2 := Lib.hid ((Below.refl g w1).grown HST.out.2 hgw (fun k e => by cases e; exact Nat.le_refl _))
  generalize w1.setCell ⟨g, 0, none⟩ (.int .u8 69) = w2 at O2 K2 ⊢
  clear HST c0 f0 O1
  refine (rput16_any g 20 20 w.heap.size 2 (20 + n) _ w2 O2.out h20m (by omega) (by omega)).mono ?_
  rintro e w3 ⟨rfl, o3, g3⟩
  have O3 := Lib.hid o3
  have K3 := Lib.hid (K2.out.grown g3 (Nat.le_trans hgw K2.out.size) (fun k e => by cases e; exact Nat.le_refl _))
  clear o3 g3 O2 K2
  obtain ⟨Z, hZ⟩ : ∃ Z, Z = (((List.replicate 20 0).set 0 69).set 2 ((20 + n) / 256)).set (2 + 1) ((20 + n) % 256) := ⟨_, rfl⟩
  have HZL : Hid (Z.length = 20) := by
    show _ = _
    rw [hZ]; simp
  rw [← hZ] at O3 HM
  clear hZ
  have c6 := O3.out.cellAt 6 (by omega)
  have c8 := O3.out.cellAt 8 (by omega)
  have c9 := O3.out.cellAt 9 (by omega)
  rw [nus_get _ _ _ (by rw [HZL.out]; omega)] at c6 c8 c9
  have f6 := O3.out.frozenAt 6
  have f8 := O3.out.frozenAt 8
  have f9 := O3.out.frozenAt 9
  have h6 := O3.out.stored 6 (.int .u8 ((64 : Nat) : Int))
  rw [nus_set] at h6
  have h8 := h6.1.stored 8 (.int .u8 ((64 : Nat) : Int))
  rw [nus_set] at h8
  have h9 := h8.1.stored 9 (.int .u8 (p : Int))
  rw [nus_set] at h9
  have k6 := K3.out.grown h6.2 (Nat.le_trans hgw K3.out.size) (fun k e => by cases e; exact Nat.le_refl _)
  have k8 := k6.grown h8.2 (Nat.le_trans hgw k6.size) (fun k e => by cases e; exact Nat.le_refl _)
  have k9 := k8.grown h9.2 (Nat.le_trans hgw k8.size) (fun k e => by cases e; exact Nat.le_refl _)
  have H9 := Lib.hid (show (((w3.setCell ⟨g, 6, none⟩ (.int .u8 64)).setCell ⟨g, 8, none⟩ (.int .u8 64)).setCell ⟨g, 9, none⟩ (.int .u8 (p : Int))).ownsRow w.heap.size 5 1 (.slice (some ⟨g, 0, none⟩) 20 20) 20 (nus .u8 (((Z.set 6 64).set 8 64).set 9 p)) from h9.1)
  have K9 := Lib.hid (show Below g w1 (((w3.setCell ⟨g, 6, none⟩ (.int .u8 64)).setCell ⟨g, 8, none⟩ (.int .u8 64)).setCell ⟨g, 9, none⟩ (.int .u8 (p : Int))) from k9)
  clear h6 h8 h9 k6 k8 k9
  generalize Z.getD 6 0 = y6 at c6
  generalize Z.getD 8 0 = y8 at c8
  generalize Z.getD 9 0 = y9 at c9
  have hpl : (((Z.set 6 64).set 8 64).set 9 p).length = 20 := by simp [HZL.out]
  obtain ⟨P, hP⟩ : ∃ P, P = ((Z.set 6 64).set 8 64).set 9 p := ⟨_, rfl⟩
  rw [← hP] at H9 HM hpl
  have HPL := Lib.hid hpl
  clear hP hpl
  go_wp2
  go_loopw [11] (fun i wr => ∃ k : Nat, k ≤ 4 ∧ i = .int .i64 (k : Int) ∧ Hid (wr.ownsRow w.heap.size 5 1 (.slice (some ⟨g, 0, none⟩) 20 20) 20 (nus .u8 (rowj P sb db k))) ∧ Hid (Below g w1 wr)) (fun i _ => 4 - (RowKit.intOf i).toNat)
  case atStart => exact ⟨0, by omega, rfl, by show World.ownsRow _ _ _ _ _ _ _; rw [rowj_zero P sb db HPL.out]; exact H9.out, K9⟩
  case round =>
    obtain ⟨k, hk4, rfl, hO, hK⟩ := hrel
    clear c6 c8 c9 f6 f8 f9 H9 K9 O3 K3
    by_cases hlt : k < 4
    · have s1 := ((N1.out.below hK.out hg1).cell (1 + k)).trans (G1.out k hlt)
      have s2 := ((N2.out.below hK.out hg2).cell (1 + k)).trans (G2.out k hlt)
      have t1 := hO.out.cellAt (12 + k) (by omega)
      have t2 := hO.out.cellAt (16 + k) (by omega)
      rw [nus_get _ _ _ (by rw [rowj_length]; omega)] at t1 t2
      have f1 := hO.out.frozenAt (12 + k)
      have f2 := hO.out.frozenAt (16 + k)
      have q1 := hO.out.stored (12 + k) (.int .u8 ((sb.getD k 0 : Nat) : Int))
      rw [nus_set] at q1
      have q2 := q1.1.stored (16 + k) (.int .u8 ((db.getD k 0 : Nat) : Int))
      rw [nus_set, rowj_step P sb db k hlt] at q2
      have k1 := hK.out.grown q1.2 (Nat.le_trans hgw hK.out.size) (fun k e => by cases e; exact Nat.le_refl _)
      have k2 := k1.grown q2.2 (Nat.le_trans hgw k1.size) (fun k e => by cases e; exact Nat.le_refl _)
      have Q := Lib.hid q2.1
      have KK := Lib.hid k2
      generalize (rowj P sb db k).getD (12 + k) 0 = y1 at t1
      generalize (rowj P sb db k).getD (16 + k) 0 = y2 at t2
      clear q1 q2 k1 k2
      generalize sb.getD k 0 = x1 at *
      generalize db.getD k 0 = x2 at *
      have a1 : IntKind.i64.wrap (12 + (k : Int)) = 12 + (k : Int) := by rw [IntKind.wrap_i64]; omega
      have a2 : IntKind.i64.wrap (16 + (k : Int)) = 16 + (k : Int) := by rw [IntKind.wrap_i64]; omega
      have b1 : (0 : Int) ≤ 12 + (k : Int) ∧ 12 + (k : Int) < 20 := by omega
      have b2 : (0 : Int) ≤ 16 + (k : Int) ∧ 16 + (k : Int) < 20 := by omega
      have d1 : ((12 : Int) + (k : Int)).toNat = 12 + k := by omega
      have d2 : ((16 : Int) + (k : Int)).toNat = 16 + k := by omega
      go_wp2
      go_roundw
      case rel => exact ⟨k + 1, by omega, by go_num, Q, KK⟩
      case measure => simp [RowKit.intOf]; omega
    · obtain rfl : k = 4 := by omega
      have O4 := Lib.hid (show wr.ownsRow w.heap.size 5 1 (.slice (some ⟨g, 0, none⟩) 20 20) 20 (nus .u8 M) from by rw [← HM.out]; exact hO.out)
      have K4 := hK
      clear hO hK hlt
      go_wp2_with fail
      refine (rcheck_any _ M _ (Rd.own O4.out) (by rw [HML.out]; omega) HMB.out).mono ?_
      rintro e w9 ⟨rfl, rfl⟩
      go_wp2_with fail
      refine (rput16_any g 20 20 w.heap.size 10 (ck M) M _ O4.out h20m (by omega) (by omega)).mono ?_
      rintro e w10 ⟨rfl, o10, g10⟩
      rw [← HR.out] at o10
      have O10 := Lib.hid o10
      have K10 := Lib.hid (K4.out.grown g10 (Nat.le_trans hgw K4.out.size) (fun k e => by cases e; exact Nat.le_refl _))
      clear o10 g10 O4 K4
      go_wp2
      go_ret2
      exact ⟨_, rfl, O10.out, K1.out.trans (K10.out.mono hgl)⟩
end Go.Proofs.Ytnpibdjfafpegaa
namespace Go.Proofs.Ytnpibdjfafpegaa
open Go.RowKit
theorem set_ov (zs : List Nat) (k v : Nat) (h : k + 2 ≤ zs.length) (hv : v < 65536) : (zs.set k (v / 256)).set (k + 1) (v % 256) = ov zs (bg 2 v) k := by
  have hl : (bg 2 v).length = 2 := bg_length 2 v
  refine ext_getD _ _ 0 (by rw [ov_length _ _ _ (by omega)]; simp) fun i hi => ?_
  have hi2 : i < zs.length := by simpa using hi
  rw [set_get _ _ _ _ (by simpa using hi2), set_get _ _ _ _ hi2, ov_get _ _ _ _ (by omega), hl]
  have hb : bg 2 v = [v / 256 % 256, v % 256] := by simp [bg]
  rw [hb]
  by_cases h1 : k + 1 = i
  · subst h1
    rw [if_pos rfl, if_pos (by omega), show k + 1 - k = 1 by omega]; rfl
  · rw [if_neg h1]
    by_cases h2 : k = i
    · subst h2
      rw [if_pos rfl, if_pos (by omega), Nat.sub_self]
      show v / 256 = v / 256 % 256
      omega
    · rw [if_neg h2, if_neg (by omega)]
theorem bytesA_lt (v : Bool) (bs : List Nat) (h : ∀ c ∈ bs, c < 256) : ∀ c ∈ bytesA v bs, c < 256 := by
  unfold bytesA; split
  · exact h
  · exact fun c hc => h c (List.mem_of_mem_take hc)
theorem bytesA_len (v : Bool) (bs : List Nat) (h : bs.length = 16) : (bytesA v bs).length = if v then 16 else 4 := by
  unfold bytesA; split
  · exact h
  · simp [h]
end Go.Proofs.Ytnpibdjfafpegaa
namespace Go.Proofs.Ytnpibdjfafpegaa
open Go.RowKit
theorem gr_full (u : Nat) : gr u = 65535 ↔ u ≠ 0 ∧ u % 65535 = 0 := by unfold gr; split <;> omega
theorem ck_zero (b : List Nat) : ck b = 0 ↔ wsp 0 b ≠ 0 ∧ wsp 0 b % 65535 = 0 := by
  rw [← gr_full]
  have := gr_le (wsp 0 b)
  unfold ck
  omega
theorem wsp_first (b : List Nat) (h : 0 < b.length) (h0 : 0 < b.getD 0 0) : wsp 0 b ≠ 0 := by
  cases b with
  | nil => cases h
  | cons x r =>
    have : 0 < x := by simpa using h0
    simp only [wsp]
    rw [wt_even 0 rfl]
    omega
theorem ck_put (H : List Nat) (h20 : 12 ≤ H.length) (h0 : 0 < H.getD 0 0) (hz : u2 H 10 = 0) : ck (ov H (bg 2 (ck H)) 10) = 0 := by
  have hl := bg_length 2 (ck H)
  have h1 := ov_wsp H (bg 2 (ck H)) 10 rfl (by rw [hl]; omega) (by rw [hl])
  rw [hl, wsp_two_at H 10 (by omega), hz, wsp_bg _ (by have := ck_le H; omega)] at h1
  have h2 := ck_mod H
  rw [ck_zero]
  refine ⟨wsp_first _ (by rw [ov_length _ _ _ (by rw [hl]; omega)]; omega) (by rw [ov_get_off _ _ _ _ (by rw [hl]; omega) (by omega)]; exact h0), ?_⟩
  omega
end Go.Proofs.Ytnpibdjfafpegaa
namespace Go.Proofs.Ytnpibdjfafpegaa
open Go.RowKit
theorem list4 (s : List Nat) (h : s.length = 4) : ∃ a b c d, s = [a, b, c, d] := by
  match s, h with
  | [a, b, c, d], _ => exact ⟨a, b, c, d, rfl⟩
theorem mk4_lit (s0 s1 s2 s3 d0 d1 d2 d3 p n : Nat) : ∃ x y, mk4 [s0, s1, s2, s3] [d0, d1, d2, d3] p n = [69, 0, (20 + n) / 256 % 256, (20 + n) % 256, 0, 0, 64, 0, 64, p, x, y, s0, s1, s2, s3, d0, d1, d2, d3] :=
  ⟨ck (mk0 [s0, s1, s2, s3] [d0, d1, d2, d3] p n) / 256 % 256, ck (mk0 [s0, s1, s2, s3] [d0, d1, d2, d3] p n) % 256, rfl⟩
theorem mk4_ck (s d : List Nat) (hs : s.length = 4) (hd : d.length = 4) (p n : Nat) : ck (mk4 s d p n) = 0 := by
  have hl := mk0_length s d hs hd p n
  refine ck_put _ (by omega) ?_ ?_
  · show 0 < 69; omega
  · obtain ⟨s0, s1, s2, s3, rfl⟩ := list4 s hs
    simp [u2, mk0, bg]
set_option maxRecDepth 10000 in
set_option maxHeartbeats 200000 in
theorem mk_read (s d data : List Nat) (p n : Nat) (hs1 : s.length = 4) (hd1 : d.length = 4) (hn : data.length = n) (hn2 : n ≤ 65515) (hp : p = 6 ∨ p = 17) :
    ff (mk4 s d p n ++ data) = 0 ∧ hd (mk4 s d p n ++ data) = hcells 20 (20 + n) p (a4 s) (a4 d) ∧ ((mk4 s d p n ++ data).drop 16).take 4 = d ∧ hs (mk4 s d p n ++ data) = 20 ∧ u2 (mk4 s d p n ++ data) 2 = 20 + n ∧ (mk4 s d p n ++ data).getD 9 0 = p ∧ ((mk4 s d p n ++ data).drop 12).take 4 = s ∧ (mk4 s d p n ++ data).length = 20 + n := by
  have hck := mk4_ck s d hs1 hd1 p n
  obtain ⟨s0, s1, s2, s3, es⟩ := list4 s hs1
  obtain ⟨d0, d1, d2, d3, ed⟩ := list4 d hd1
  clear hs1 hd1
  subst es ed
  obtain ⟨x, y, e⟩ := mk4_lit s0 s1 s2 s3 d0 d1 d2 d3 p n
  rw [e] at hck ⊢
  obtain ⟨Z, hZ⟩ : ∃ Z, Z = [69, 0, (20 + n) / 256 % 256, (20 + n) % 256, 0, 0, 64, 0, 64, p, x, y, s0, s1, s2, s3, d0, d1, d2, d3] ++ data := ⟨_, rfl⟩
  have zl : Z.length = 20 + n := by rw [hZ, List.length_append, hn]; simp
  have g0 : Z.getD 0 0 = 69 := by rw [hZ]; simp
  have g9 : Z.getD 9 0 = p := by rw [hZ]; simp
  have e2 : u2 Z 2 = 20 + n := by
    have : u2 Z 2 = (20 + n) / 256 % 256 * 256 + (20 + n) % 256 := by rw [hZ]; simp [u2]
    omega
  have e6 : u2 Z 6 = 16384 := by rw [hZ]; simp [u2]
  have t20 : Z.take 20 = [69, 0, (20 + n) / 256 % 256, (20 + n) % 256, 0, 0, 64, 0, 64, p, x, y, s0, s1, s2, s3, d0, d1, d2, d3] := by rw [hZ]; simp
  have m12 : (Z.drop 12).take 4 = [s0, s1, s2, s3] := by rw [hZ]; simp
  have m16 : (Z.drop 16).take 4 = [d0, d1, d2, d3] := by rw [hZ]; simp
  have es : hs Z = 20 := by unfold hs; rw [g0]
  rw [← hZ]
  have hff : ff Z = 0 := by
    unfold ff
    rw [if_neg (by omega), g0, es, e2, if_neg (by omega), if_neg (by omega), t20, hck, e6, g9, if_neg (by omega), if_neg (by omega), if_neg (by omega)]
  refine ⟨hff, ?_, m16, es, e2, g9, m12, zl⟩
  unfold hd
  rw [if_pos hff, es, e2, g9, m12, m16]
end Go.Proofs.Ytnpibdjfafpegaa
namespace Go.Proofs.Ytnpibdjfafpegaa
open Go.RowKit
set_option maxRecDepth 100000 in
set_option maxHeartbeats 400000 in
theorem word4_any (v : Value) (k : Nat) (zs : List Nat) (w : World) (hr : Rd w v (nus .u8 zs)) (hb : ∀ c ∈ zs, c < 256) (hk : k + 2 ≤ zs.length) :
    Calls Try.prog 70 #[v, .int .i64 (k : Int)] w fun e w' => e = .returned (.int .u16 (u2 zs k : Nat)) ∧ w = w' := by
  have H := Lib.hid (get16_yes v k zs w hr hb hk)
  have HE := Lib.hid (be_u2 zs k hk)
  clear hr hb hk
  go_enter Try.func70, Try.ntmps70
  go_wp2_with fail
  refine H.out.mono ?_; rintro e w' ⟨rfl, rfl⟩
  rw [HE.out]
  go_wp2
  go_ret
  exact ⟨rfl, rfl⟩
set_option maxRecDepth 100000 in
set_option maxHeartbeats 400000 in
theorem sizeOf_any (v : Value) (zs : List Nat) (w : World) (hr : Rd w v (nus .u8 zs)) (hb : ∀ c ∈ zs, c < 256) (h0 : 0 < zs.length) :
    Calls Try.prog 69 #[v] w fun e w' => e = .returned (.int .i64 (hs zs : Nat)) ∧ w = w' := by
  obtain ⟨a, cap, rfl, h1, h2⟩ := rd_shape hr
  obtain ⟨b, off, rfl, hc⟩ := hr.cells h0
  have c0 := hc 0 h0
  have hx := getD_lt zs hb 0
  have hl := Lib.hid (low4 _ hx)
  have hH := Lib.hid (show (4 * (zs.getD 0 0 % 16) : Nat) = hs zs from rfl)
  unfold maxLen at h2
  obtain ⟨len, hle⟩ : ∃ n, n = zs.length := ⟨_, rfl⟩
  rw [← hle] at h0 h1 ⊢
  generalize zs.getD 0 0 = x at *
  rw [Nat.add_zero] at c0
  clear hc hr hb hle
  have hl' := hl.out
  go_enter Try.func69, Try.ntmps69
  go_wp2
  go_ret
  exact ⟨ret_int (by rw [← hH.out]; go_num), rfl⟩
set_option maxRecDepth 100000 in
set_option maxHeartbeats 1000000 in
theorem fault4_any (v : Value) (zs : List Nat) (w : World) (hr : Rd w v (nus .u8 zs)) (hb : ∀ c ∈ zs, c < 256) :
    Calls Try.prog 68 #[v] w fun e w' => e = .returned (.int .i64 (ff zs : Nat)) ∧ Below w.heap.size w w' := by
  obtain ⟨a, cap, rfl, h1, h2⟩ := rd_shape hr
  by_cases h20 : zs.length < 20
  · have hf : ff zs = 1 := by unfold ff; rw [if_pos h20]
    rw [hf]
    unfold maxLen at h2
    clear hr hb hf
    go_enter Try.func68, Try.ntmps68
    go_wp2
    go_ret
    exact ⟨rfl, Below.refl _ _⟩
  obtain ⟨b, off, rfl, hc⟩ := hr.cells (by omega)
  have c0 := hc 0 (by omega)
  have c9 := hc 9 (by omega)
  obtain ⟨va, hva⟩ : ∃ va, va = Value.slice (some ⟨b, off, none⟩) zs.length cap := ⟨_, rfl⟩
  have SZ := Lib.hid (sizeOf_any va zs w (hva ▸ hr) hb (by omega))
  have W2 := Lib.hid (fun w' (h : Rd w' va (nus .u8 zs)) => word4_any va 2 zs w' h hb (by omega))
  have W6 := Lib.hid (fun w' (h : Rd w' va (nus .u8 zs)) => word4_any va 6 zs w' h hb (by omega))
  have HR := Lib.hid (show Rd w va (nus .u8 zs) from hva ▸ hr)
  rw [hva] at SZ W2 W6 HR
  have hx := getD_lt zs hb 0
  have hp := getD_lt zs hb 9
  have hl := u2_lt zs 2 hb
  have hg := u2_lt zs 6 hb
  have hs4 := hs_lt zs
  have HL := Lib.hid (low14 _ hg)
  have HC := Lib.hid (fun w' h => check_any (.slice (some ⟨b, off, none⟩) (hs zs) cap) (zs.take (hs zs)) w' h (by simp; omega) (fun c hc => hb c (List.mem_of_mem_take hc)))
  have hck := ck_le (zs.take (hs zs))
  have HFr := Lib.hid (fun w' (h : Rd w' (.slice (some ⟨b, off, none⟩) zs.length cap) (nus .u8 zs)) => h.front (hs zs))
  unfold maxLen at h2
  rw [Nat.add_zero] at c0
  clear hc hr hb hva va
  obtain ⟨F, hFe⟩ : ∃ F, F = ff zs := ⟨_, rfl⟩
  rw [show (Calls Try.prog 68 #[.slice (some ⟨b, off, none⟩) zs.length cap] w fun e w' => e = .returned (.int .i64 (ff zs : Nat)) ∧ Below w.heap.size w w') = _ from by rw [← hFe]]
  unfold ff at hFe
  have HF := Lib.hid hFe
  clear hFe
  generalize zs.getD 0 0 = x at *
  generalize zs.getD 9 0 = p at *
  generalize hs zs = s at *
  generalize u2 zs 2 = l at *
  generalize u2 zs 6 = g at *
  generalize ck (zs.take s) = q at *
  generalize zs.take s = T at *
  generalize zs.length = n at *
  go_enter Try.func68, Try.ntmps68
  go_wp2_with fail
  refine SZ.out.mono ?_; rintro e w' ⟨rfl, rfl⟩
  go_wp2_with fail
  refine (W2.out _ HR.out).mono ?_; rintro e w' ⟨rfl, rfl⟩
  clear SZ W2
  by_cases h4 : x / 16 = 4
  case neg =>
    have hf : F = 3 := by rw [HF.out, if_neg h20, if_pos (.inl h4)]
    have g4 : ((x : Int) / 16 != 4) = true := by rw [bne_iff_ne]; omega
    subst hf
    clear h4
    go_wp2
    go_ret
    exact ⟨rfl, Below.refl _ _⟩
  have g4 : ((x : Int) / 16 != 4) = false := by rw [bne_eq_false_iff_eq]; omega
  by_cases hs20 : s < 20
  · have hf : F = 3 := by rw [HF.out, if_neg h20, if_pos (.inr (.inl hs20))]
    subst hf
    clear h4
    go_wp2
    go_ret
    exact ⟨rfl, Below.refl _ _⟩
  by_cases hls : l < s
  · have hf : F = 3 := by rw [HF.out, if_neg h20, if_pos (.inr (.inr hls))]
    subst hf
    clear h4
    go_wp2
    go_ret
    exact ⟨rfl, Below.refl _ _⟩
  have HF2 := Lib.hid (HF.out.trans ((if_neg h20).trans (if_neg (by omega))))
  clear HF
  by_cases hnl : n < l
  · have hf : F = 1 := by rw [HF2.out, if_pos hnl]
    subst hf
    clear h4
    go_wp2
    go_ret
    exact ⟨rfl, Below.refl _ _⟩
  have HF := Lib.hid (HF2.out.trans (if_neg hnl))
  have HS := Lib.hid (HFr.out w HR.out (by omega))
  clear HF2 h4 HFr
  go_wp2_with fail
  refine (HC.out _ HS.out).mono ?_; rintro e w1 ⟨rfl, b1⟩
  have B1 := Lib.hid b1
  have R1 := Lib.hid (HR.out.below b1)
  clear b1 HC HS HR
  by_cases hq : q = 0
  case neg =>
    have hf : F = 4 := by rw [HF.out, if_pos hq]
    have gq : ((q : Int) != 0) = true := by rw [bne_iff_ne]; omega
    subst hf
    clear hq
    go_wp2
    go_ret
    exact ⟨rfl, B1.out⟩
  have HF2 := Lib.hid (HF.out.trans (if_neg (by omega)))
  subst hq
  clear HF
  go_wp2_with fail
  refine (W6.out _ R1.out).mono ?_; rintro e w' ⟨rfl, rfl⟩
  have hl14 := HL.out
  by_cases hg0 : g % 16384 = 0
  case neg =>
    have hf : F = 5 := by rw [HF2.out, if_pos hg0]
    have gq : (((g % 16384 : Nat) : Int) != 0) = true := by rw [bne_iff_ne]; omega
    subst hf
    clear hg0
    go_wp2
    go_ret
    exact ⟨rfl, B1.out⟩
  have HF := Lib.hid (HF2.out.trans (if_neg (by omega)))
  have gq : (((g % 16384 : Nat) : Int) != 0) = false := by rw [bne_eq_false_iff_eq]; omega
  have hb0 : b < w.heap.size := by
    rcases Nat.lt_or_ge b w.heap.size with h | h
    · exact h
    · simp [World.cell?, Array.getElem?_eq_none h] at c0
  have c9' := (B1.out.cell (p := ⟨b, off + 9, none⟩) hb0).trans c9
  clear HF2 hg0 c0 c9
  by_cases hp6 : p = 6
  · have hf : F = 0 := by rw [HF.out, if_neg (by omega)]
    subst hf hp6
    go_wp2
    go_ret
    exact ⟨rfl, B1.out⟩
  by_cases hp17 : p = 17
  · have hf : F = 0 := by rw [HF.out, if_neg (by omega)]
    subst hf hp17
    go_wp2
    go_ret
    exact ⟨rfl, B1.out⟩
  have hf : F = 6 := by rw [HF.out, if_pos ⟨hp6, hp17⟩]
  have g6 : ((p : Int) != 6) = true := by rw [bne_iff_ne]; omega
  have g17 : ((p : Int) != 17) = true := by rw [bne_iff_ne]; omega
  subst hf
  clear hp6 hp17
  go_wp2
  go_ret
  exact ⟨rfl, B1.out⟩
end Go.Proofs.Ytnpibdjfafpegaa
namespace Go.Proofs.Ytnpibdjfafpegaa
open Go.RowKit
set_option maxRecDepth 100000 in
theorem built_head (s l p : Nat) (S D : Array Value) (hS : S.size = 17) (hD : D.size = 17) : Try.prog.built 110 [(0, .int .i64 (s : Int)), (1, .int .i64 (l : Int)), (2, .int .u8 (p : Int)), (3, .agg S), (4, .agg D)] = some (hcells s l p S D) := by
  obtain ⟨x0, x1, x2, x3, x4, x5, x6, x7, x8, x9, x10, x11, x12, x13, x14, x15, x16, rfl⟩ := arr17 S hS
  obtain ⟨y0, y1, y2, y3, y4, y5, y6, y7, y8, y9, y10, y11, y12, y13, y14, y15, y16, rfl⟩ := arr17 D hD
  kernel_rfl
set_option maxRecDepth 100000 in
theorem i29 : (Try.prog.info? 110).map (·.size) = some 37 := by kernel_rfl
set_option maxRecDepth 100000 in
set_option maxHeartbeats 1000000 in
theorem read4_no (v : Value) (zs : List Nat) (w : World) (hr : Rd w v (nus .u8 zs)) (hb : ∀ c ∈ zs, c < 256) (h : ff zs ≠ 0) :
    Calls Try.prog 60 #[v] w fun e w' => e = .returned (.tuple #[.agg h0, .int .i64 (ff zs : Nat)]) ∧ Below w.heap.size w w' := by
  have B0 := (Below.refl w.heap.size w).alloc (Nat.le_refl _) (.cells h0 110)
  have HF := Lib.hid (fault4_any v zs _ (hr.below B0) hb)
  have hlt := ff_lt zs
  have HN := Lib.hid (Blk.new w 110 h0)
  have HB := Lib.hid B0
  obtain ⟨a, cap, rfl, -, -⟩ := rd_shape hr
  obtain ⟨r, hre⟩ : ∃ r, r = ff zs := ⟨_, rfl⟩
  rw [← hre] at HF h hlt ⊢
  generalize zs.length = n at *
  clear hr hb hre B0
  go_enter Try.func60, Try.ntmps60
  go_wp2_with fail
  refine HF.out.mono ?_; rintro e W1 ⟨rfl, hb⟩
  have HN1 := Lib.hid (HN.out.below hb HN.out.lt)
  have HB1 := Lib.hid (HB.out.trans (hb.mono HB.out.size))
  clear hb HN HB HF
  have g0 : ((r : Int) != 0) = true := by simp; omega
  clear h
  have Z := Lib.hid (i29.trans (congrArg some h0_size.symm))
  have A := Lib.hid h0_all
  go_wp2_with ((refine wpList_blk_store (op := ⟨none, .store 110 (.tmp 2) (.tmp 13), _, _, _, _⟩) rfl 110 (.tmp 2) (.tmp 13) rfl w.heap.size h0 (by rfl) (by rfl) HN1.out rfl Z.out A.out ?_))
  intro W2 hA hF hB
  have HB2 := Lib.hid (HB1.out.trans (hB _ (Nat.le_refl _)))
  have HA := Lib.hid hA
  clear hA hF hB
  go_wp2
  have hrun := run_blk_load (P := Try.prog) 110 w.heap.size _ HA.out Try.underlying110 rfl Z.out
  exact bodyPost_ret (results_cell_tmp 2 110 3 w.heap.size _ Try.results60 rfl hrun) rfl ⟨rfl, HB2.out⟩
set_option maxRecDepth 100000 in
set_option maxHeartbeats 1000000 in
theorem read4_yes (v : Value) (zs : List Nat) (w : World) (hr : Rd w v (nus .u8 zs)) (hb : ∀ c ∈ zs, c < 256) (h : ff zs = 0) :
    Calls Try.prog 60 #[v] w fun e w' => e = .returned (.tuple #[.agg (hd zs), .int .i64 0]) ∧ Below w.heap.size w w' := by
  obtain ⟨h20, -, -, -, -, -, -, -⟩ := ff_yes zs h
  have B0 := (Below.refl w.heap.size w).alloc (Nat.le_refl _) (.cells h0 110)
  have HF := Lib.hid (fault4_any v zs _ (hr.below B0) hb)
  rw [h] at HF
  have HN := Lib.hid (Blk.new w 110 h0)
  have HB := Lib.hid B0
  have HR := Lib.hid hr
  obtain ⟨a, cap, rfl, h1, h2⟩ := rd_shape hr
  obtain ⟨b, off, rfl, hc⟩ := hr.cells (by omega)
  obtain ⟨S, hS⟩ : ∃ S, S = a4 ((zs.drop 12).take 4) := ⟨_, rfl⟩
  obtain ⟨D, hD⟩ : ∃ D, D = a4 ((zs.drop 16).take 4) := ⟨_, rfl⟩
  have l1 : ((zs.drop 12).take 4).length = 4 := by simp; omega
  have l2 : ((zs.drop 16).take 4).length = 4 := by simp; omega
  have C1 := Lib.hid (fun w' (hw : Rd w' (.slice (some ⟨b, off + 12, none⟩) 4 (cap - 12)) (nus .u8 ((zs.drop 12).take 4))) => from_ok _ false ((zs.drop 12).take 4) w' hw (.inl ⟨l1, rfl⟩))
  have C2 := Lib.hid (fun w' (hw : Rd w' (.slice (some ⟨b, off + 16, none⟩) 4 (cap - 16)) (nus .u8 ((zs.drop 16).take 4))) => from_ok _ false ((zs.drop 16).take 4) w' hw (.inl ⟨l2, rfl⟩))
  have R1 := Lib.hid (hr.sub 12 4 (by omega))
  have R2 := Lib.hid (hr.sub 16 4 (by omega))
  rw [show adr false ((zs.drop 12).take 4 ++ List.replicate (16 - ((zs.drop 12).take 4).length) 0) = .agg S from by rw [hS]; rfl] at C1
  rw [show adr false ((zs.drop 16).take 4 ++ List.replicate (16 - ((zs.drop 16).take 4).length) 0) = .agg D from by rw [hD]; rfl] at C2
  have hsS := a4_size ((zs.drop 12).take 4) (by omega)
  have hsD := a4_size ((zs.drop 16).take 4) (by omega)
  have haS := a4_all ((zs.drop 12).take 4)
  have haD := a4_all ((zs.drop 16).take 4)
  have hh : hd zs = hcells (hs zs) (u2 zs 2) (zs.getD 9 0) S D := by unfold hd; rw [if_pos h, hS, hD]
  rw [← hS] at hsS haS
  rw [← hD] at hsD haD
  have c9 := hc 9 (by omega)
  unfold maxLen at h2
  clear hc l1 l2 hS hD B0
  generalize (zs.drop 12).take 4 = Sb at *
  generalize (zs.drop 16).take 4 = Db at *
  have HSS := Lib.hid (i24.trans (congrArg some hsS.symm))
  have HSD := Lib.hid (i24.trans (congrArg some hsD.symm))
  have HAS := Lib.hid haS
  have HAD := Lib.hid haD
  have HZS := Lib.hid (hsS.trans (cellsA_size false (List.replicate 16 0)).symm)
  have HZD := Lib.hid (hsD.trans (cellsA_size false (List.replicate 16 0)).symm)
  have CS := Lib.hid (fun W (hw : Rd W (.slice (some ⟨b, off, none⟩) zs.length cap) (nus .u8 zs)) => sizeOf_any _ zs W hw hb (by omega))
  have CW := Lib.hid (fun W (hw : Rd W (.slice (some ⟨b, off, none⟩) zs.length cap) (nus .u8 zs)) => word4_any _ 2 zs W hw hb (by omega))
  have hbuild := built_head (hs zs) (u2 zs 2) (zs.getD 9 0) S D hsS hsD
  have HBD := Lib.hid hbuild
  have hcs := hcells_size (hs zs) (u2 zs 2) (zs.getD 9 0) S D hsS hsD
  have hca := hcells_all (hs zs) (u2 zs 2) (zs.getD 9 0) S D haS haD
  rw [hh]
  have hl := u2_lt zs 2 hb
  have hs4 := hs_lt zs
  clear hbuild hh hb h hr
  generalize hs zs = s at *
  generalize u2 zs 2 = l at *
  generalize zs.getD 9 0 = p at *
  generalize zs.length = n at *
  obtain ⟨hc, hhc⟩ : ∃ x, x = hcells s l p S D := ⟨_, rfl⟩
  rw [← hhc] at HBD hcs hca ⊢
  have Z := Lib.hid (i29.trans (congrArg some hcs.symm))
  have Z0 := Lib.hid (hcs.trans h0_size.symm)
  have AC := Lib.hid hca
  have h9n : (9 : Int) < (n : Int) := by omega
  have hlw : IntKind.i64.wrap (l : Int) = (l : Int) := by rw [IntKind.wrap_i64]; omega
  clear hcs hca hhc hsS hsD haS haD
  go_enter Try.func60, Try.ntmps60
  go_wp2_with fail
  refine HF.out.mono ?_; rintro e W1 ⟨rfl, hb1⟩
  have HN1 := Lib.hid (HN.out.below hb1 HN.out.lt)
  have HB1 := Lib.hid (HB.out.trans (hb1.mono HB.out.size))
  clear hb1 HN HB HF
  go_wp2_with fail
  refine (C1.out _ (R1.out.below HB1.out)).mono ?_; rintro e W2 ⟨rfl, hb1⟩
  have K1 := Lib.hid (HB1.out.trans (hb1.mono HB1.out.size))
  have N1 := Lib.hid (HN1.out.below hb1 HN1.out.lt)
  clear hb1 HN1 HB1
  go_wp2_with ((refine wpList_blk_store (op := ⟨none, .store 27 (.tmp 5) (.tmp 19), _, _, _, _⟩) rfl 27 (.tmp 5) (.tmp 19) rfl W2.heap.size S (by rfl) (by rfl) (Blk.new W2 27 (cellsA false (List.replicate 16 0))) HZS.out HSS.out HAS.out ?_))
  intro W3 hA hF hB
  have K2 := Lib.hid ((K1.out.alloc K1.out.size (.cells (cellsA false (List.replicate 16 0)) 27)).trans (hB _ K1.out.size))
  have N2 := Lib.hid ((N1.out.alloc (.cells (cellsA false (List.replicate 16 0)) 27)).below (hB _ (Nat.le_refl _)) N1.out.lt)
  have A2 := Lib.hid hA
  clear hA hF hB K1 N1
  go_wp2_with fail
  refine (C2.out _ (R2.out.below K2.out)).mono ?_; rintro e W4 ⟨rfl, hb1⟩
  have K3 := Lib.hid (K2.out.trans (hb1.mono K2.out.size))
  have N3 := Lib.hid (N2.out.below hb1 N2.out.lt)
  have A3 := Lib.hid (A2.out.below hb1 A2.out.lt)
  clear hb1 K2 N2 A2 C1 C2 R1 R2
  go_wp2_with ((refine wpList_blk_store (op := ⟨none, .store 27 (.tmp 7) (.tmp 25), _, _, _, _⟩) rfl 27 (.tmp 7) (.tmp 25) rfl W4.heap.size D (by rfl) (by rfl) (Blk.new W4 27 (cellsA false (List.replicate 16 0))) HZD.out HSD.out HAD.out ?_))
  intro W5 hA hF hB
  have K4 := Lib.hid ((K3.out.alloc K3.out.size (.cells (cellsA false (List.replicate 16 0)) 27)).trans (hB _ K3.out.size))
  have N4 := Lib.hid ((N3.out.alloc (.cells (cellsA false (List.replicate 16 0)) 27)).below (hB _ (Nat.le_refl _)) N3.out.lt)
  have A4 := Lib.hid ((A3.out.alloc (.cells (cellsA false (List.replicate 16 0)) 27)).below (hB _ (Nat.le_refl _)) A3.out.lt)
  have D4 := Lib.hid hA
  clear hA hF hB K3 N3 A3
  go_wp2_with fail
  refine wp_region_still_tail 11 (by kernel_rfl) (by kernel_rfl) ?_
  change wpStill _ _ W5.drew (fun a' => wpList _ _ _ _ a' W5.drew) _ _
  have K5 := Lib.hid K4.out.drew
  have N5 := Lib.hid N4.out.drew
  have A5 := Lib.hid A4.out.drew
  have D5 := Lib.hid D4.out.drew
  generalize W5.drew = W6 at K5 N5 A5 D5 ⊢
  clear K4 N4 A4 D4
  have hb0 : b < w.heap.size := by
    rcases Nat.lt_or_ge b w.heap.size with h | h
    · exact h
    · simp [World.cell?, Array.getElem?_eq_none h] at c9
  have c9' := (K5.out.cell (p := ⟨b, off + 9, none⟩) hb0).trans c9
  have hA := run_blk_load (P := Try.prog) 27 W2.heap.size _ A5.out Try.underlying27 rfl HSS.out
  have hD := run_blk_load (P := Try.prog) 27 W4.heap.size _ D5.out Try.underlying27 rfl HSD.out
  have HA := Lib.hid hA
  have HD := Lib.hid hD
  clear hA hD
  simp only [List.take_succ_cons, List.take_zero, List.drop_succ_cons, List.drop_zero]
  still_step
  still_call ((CS.out _ (HR.out.below K5.out)).mono fun e w' h => ⟨h.1, h.2.symm⟩)
  still_step
  still_call ((CW.out _ (HR.out.below K5.out)).mono fun e w' h => ⟨h.1, h.2.symm⟩)
  still_step
  still_step
  still_step
  still_step
  refine wpStill_step (fun K hK => ?_)
  rw [if_pos (by rfl)]
  refine still_load 27 (.tmp 5) rfl _ rfl (.agg S) HA.out (hK _ ?_)
  clear hK K
  refine wpStill_step (fun K hK => ?_)
  rw [if_pos (by rfl)]
  refine still_load 27 (.tmp 7) rfl _ rfl (.agg D) HD.out (hK _ ?_)
  clear hK K
  refine wpStill_step (fun K hK => ?_)
  rw [if_pos (by rfl)]
  refine still_build2 110 _ rfl #[(0, .int .i64 (s : Int)), (1, .int .i64 (l : Int)), (2, .int .u8 (p : Int)), (3, .agg S), (4, .agg D)] (by kernel_rfl) hc HBD.out (hK _ ?_)
  clear hK K
  refine wpStill_nil ?_
  simp only [Act.put, tS1, tS2, tS3]
  go_wp2_with ((refine wpList_blk_store (op := ⟨none, .store 110 (.tmp 2) (.tmp 37), _, _, _, _⟩) rfl 110 (.tmp 2) (.tmp 37) rfl w.heap.size hc (by rfl) (by rfl) N5.out Z0.out Z.out AC.out ?_))
  intro W7 hA hF hB
  have K7 := Lib.hid (K5.out.trans (hB _ (Nat.le_refl _)))
  have HA := Lib.hid hA
  clear hA hF hB
  go_wp2
  have hrun := run_blk_load (P := Try.prog) 110 w.heap.size _ HA.out Try.underlying110 rfl Z.out
  exact bodyPost_ret (results_cell_tmp 2 110 3 w.heap.size _ Try.results60 rfl hrun) rfl ⟨rfl, K7.out⟩
set_option maxRecDepth 100000 in
theorem read4_any (v : Value) (zs : List Nat) (w : World) (hr : Rd w v (nus .u8 zs)) (hb : ∀ c ∈ zs, c < 256) :
    Calls Try.prog 60 #[v] w fun e w' => e = .returned (.tuple #[.agg (hd zs), .int .i64 (ff zs : Nat)]) ∧ Below w.heap.size w w' := by
  by_cases h : ff zs = 0
  · have := read4_yes v zs w hr hb h
    rw [h]; exact this
  · have := read4_no v zs w hr hb h
    have e : hd zs = h0 := by unfold hd; rw [if_neg h]
    rw [e]; exact this
end Go.Proofs.Ytnpibdjfafpegaa
namespace Go.Proofs.Ytnpibdjfafpegaa
open Go.RowKit
set_option maxRecDepth 100000 in
set_option maxHeartbeats 400000 in
theorem plen_any (v : Value) (zs : List Nat) (w : World) (hr : Rd w v (nus .u8 zs)) (hb : ∀ c ∈ zs, c < 256) (hk : 40 ≤ zs.length) :
    Calls Try.prog 67 #[v] w fun e w' => e = .returned (.int .i64 ((40 + u2 zs 4 : Nat) : Int)) ∧ w = w' := by
  have H := Lib.hid (get16_yes v 4 zs w hr hb (by omega))
  have HE := Lib.hid (be_u2 zs 4 (by omega))
  have hl := u2_lt zs 4 hb
  generalize u2 zs 4 = l at *
  have HG := Lib.hid (show ((40 + l : Nat) : Int) = 40 + (l : Int) by omega)
  clear hr hb hk
  go_enter Try.func67, Try.ntmps67
  go_wp2_with fail
  refine H.out.mono ?_; rintro e w' ⟨rfl, rfl⟩
  rw [HE.out]
  go_wp2
  go_ret
  exact ⟨ret_int (by rw [HG.out]), rfl⟩
set_option maxRecDepth 100000 in
set_option maxHeartbeats 1000000 in
theorem fault6_any (v : Value) (zs : List Nat) (w : World) (hr : Rd w v (nus .u8 zs)) (hb : ∀ c ∈ zs, c < 256) :
    Calls Try.prog 66 #[v] w fun e w' => e = .returned (.int .i64 (f6 zs : Nat)) ∧ w = w' := by
  obtain ⟨a, cap, rfl, h1, h2⟩ := rd_shape hr
  by_cases h40 : zs.length < 40
  · have hf : f6 zs = 1 := by unfold f6; rw [if_pos h40]
    rw [hf]
    unfold maxLen at h2
    clear hr hb hf
    go_enter Try.func66, Try.ntmps66
    go_wp2
    go_ret
    exact ⟨rfl, rfl⟩
  obtain ⟨b, off, rfl, hc⟩ := hr.cells (by omega)
  have c0 := hc 0 (by omega)
  have c6 := hc 6 (by omega)
  have PL := Lib.hid (plen_any _ zs w hr hb (by omega))
  have hx := getD_lt zs hb 0
  have hp := getD_lt zs hb 6
  have hl := u2_lt zs 4 hb
  unfold maxLen at h2
  rw [Nat.add_zero] at c0
  clear hc hr hb
  obtain ⟨F, hFe⟩ : ∃ F, F = f6 zs := ⟨_, rfl⟩
  rw [← hFe]
  unfold f6 at hFe
  rw [if_neg h40] at hFe
  have HF := Lib.hid hFe
  clear hFe
  generalize zs.getD 0 0 = x at *
  generalize zs.getD 6 0 = p at *
  generalize u2 zs 4 = l at *
  generalize zs.length = n at *
  by_cases h6 : x / 16 = 6
  case neg =>
    have hf : F = 3 := by rw [HF.out, if_pos h6]
    have g4 : ((x : Int) / 16 != 6) = true := by rw [bne_iff_ne]; omega
    subst hf
    clear h6
    go_enter Try.func66, Try.ntmps66
    go_wp2
    go_ret
    exact ⟨rfl, rfl⟩
  have g4 : ((x : Int) / 16 != 6) = false := by rw [bne_eq_false_iff_eq]; omega
  rw [if_neg (by omega)] at HF
  clear h6
  go_enter Try.func66, Try.ntmps66
  go_wp2_with fail
  refine PL.out.mono ?_; rintro e w' ⟨rfl, rfl⟩
  clear PL
  by_cases hnl : n < 40 + l
  · have hf : F = 1 := by rw [HF.out, if_pos hnl]
    have gl : decide (n < 40 + l) = true := decide_eq_true hnl
    subst hf
    go_wp2
    go_ret
    exact ⟨rfl, rfl⟩
  have gl : decide (n < 40 + l) = false := decide_eq_false hnl
  rw [if_neg hnl] at HF
  by_cases hp44 : p = 44
  · have hf : F = 5 := by rw [HF.out, if_pos hp44]
    subst hf hp44
    go_wp2
    go_ret
    exact ⟨rfl, rfl⟩
  rw [if_neg hp44] at HF
  by_cases hp6 : p = 6
  · have hf : F = 0 := by rw [HF.out, if_neg (by omega)]
    subst hf hp6
    go_wp2
    go_ret
    exact ⟨rfl, rfl⟩
  by_cases hp17 : p = 17
  · have hf : F = 0 := by rw [HF.out, if_neg (by omega)]
    subst hf hp17
    go_wp2
    go_ret
    exact ⟨rfl, rfl⟩
  have hf : F = 6 := by rw [HF.out, if_pos ⟨hp6, hp17⟩]
  have g6 : ((p : Int) == 6) = false := by rw [beq_eq_false_iff_ne]; omega
  have g17 : ((p : Int) == 17) = false := by rw [beq_eq_false_iff_ne]; omega
  have g44 : ((p : Int) == 44) = false := by rw [beq_eq_false_iff_ne]; omega
  subst hf
  clear hp6 hp17 hp44
  go_wp2
  go_ret
  exact ⟨rfl, rfl⟩
end Go.Proofs.Ytnpibdjfafpegaa
namespace Go.Proofs.Ytnpibdjfafpegaa
open Go.RowKit
set_option maxRecDepth 100000 in
theorem i100 : (Try.prog.info? 107).map (·.size) = some 36 := by kernel_rfl
set_option maxRecDepth 100000 in
theorem built_s (l p : Nat) (S D : Array Value) (hS : S.size = 17) (hD : D.size = 17) : Try.prog.built 107 [(0, .int .i64 (l : Int)), (1, .int .u8 (p : Int)), (2, .agg S), (3, .agg D)] = some (scells l p S D) := by
  obtain ⟨x0, x1, x2, x3, x4, x5, x6, x7, x8, x9, x10, x11, x12, x13, x14, x15, x16, rfl⟩ := arr17 S hS
  obtain ⟨y0, y1, y2, y3, y4, y5, y6, y7, y8, y9, y10, y11, y12, y13, y14, y15, y16, rfl⟩ := arr17 D hD
  kernel_rfl
set_option maxRecDepth 100000 in
set_option maxHeartbeats 1000000 in
theorem read6_no (v : Value) (zs : List Nat) (w : World) (hr : Rd w v (nus .u8 zs)) (hb : ∀ c ∈ zs, c < 256) (h : f6 zs ≠ 0) :
    Calls Try.prog 59 #[v] w fun e w' => e = .returned (.tuple #[.agg s0, .int .i64 (f6 zs : Nat)]) ∧ Below w.heap.size w w' := by
  have CF := Lib.hid (fun W (h : Rd W v (nus .u8 zs)) => fault6_any v zs W h hb)
  have hlt := f6_lt zs
  have K := Lib.hid (Below.refl w.heap.size w)
  have HR := Lib.hid hr
  obtain ⟨a, cap, rfl, -, -⟩ := rd_shape hr
  have Y0 : Hid (s0.size = Array.size (Zc36 : Array Value)) := s0_size
  have Z0 := Lib.hid (i100.trans (congrArg some s0_size.symm))
  have A0 := Lib.hid s0_all
  generalize f6 zs = r at *
  generalize zs.length = n at *
  have g0 : ((r : Int) != 0) = true := by simp; omega
  clear hr hb h
  go_enter Try.func59, Try.ntmps59
  have hal := (Below.refl w.heap.size w).alloc (Nat.le_refl _) (.cells Zc36 107)
  replace K := Lib.hid (K.out.trans (hal.mono K.out.size))
  replace HR := Lib.hid (HR.out.below hal)
  have HH := Lib.hid (Blk.new w 107 Zc36)
  clear hal
  go_wp2_with fail
  generalize (w.alloc (.cells Zc36 107)) = V1 at *
  refine (CF.out _ HR.out).mono ?_
  rintro e V2 ⟨rfl, rfl⟩
  go_wp2_with (((with_reducible refine wpList_blk_store (op := ⟨none, .store 107 (.tmp 2) (.tmp 13), _, _, _, _⟩) ?sg1 107 (.tmp 2) (.tmp 13) ?so1 (w.heap.size) s0 ?sx1 ?sy1 HH.out Y0.out Z0.out A0.out ?_); (case sg1 => rfl); (case so1 => rfl); (case sx1 => rfl); (case sy1 => rfl)))
  intro V3 hA hF hB
  replace K := Lib.hid (K.out.trans (hB _ (by omega)))
  replace HH := Lib.hid hA
  clear hA hF hB
  go_wp2
  have hrun := run_blk_load (P := Try.prog) 107 w.heap.size _ HH.out Try.underlying107 rfl Z0.out
  exact bodyPost_ret (results_cell_tmp 2 107 3 w.heap.size _ Try.results59 rfl hrun) rfl ⟨rfl, K.out⟩
set_option maxRecDepth 100000 in
set_option maxHeartbeats 1000000 in
theorem read6_yes (v : Value) (zs : List Nat) (w : World) (hr : Rd w v (nus .u8 zs)) (hb : ∀ c ∈ zs, c < 256) (h : f6 zs = 0) :
    Calls Try.prog 59 #[v] w fun e w' => e = .returned (.tuple #[.agg (hd6 zs), .int .i64 0]) ∧ Below w.heap.size w w' := by
  obtain ⟨h40, -, -, -⟩ := f6_yes zs h
  have CF := Lib.hid (fun W (h : Rd W v (nus .u8 zs)) => fault6_any v zs W h hb)
  rw [h] at CF
  have CL := Lib.hid (fun W (h : Rd W v (nus .u8 zs)) => plen_any v zs W h hb h40)
  have K := Lib.hid (Below.refl w.heap.size w)
  have HR := Lib.hid hr
  obtain ⟨a, cap, rfl, hlc, hlm⟩ := rd_shape hr
  obtain ⟨b, off, rfl, hce⟩ := hr.cells (by omega)
  have C6 := hce 6 (by omega)
  have hb0 := rd_cell C6
  have c6 := Lib.hid C6
  have HS := Lib.hid (hr.sub 8 16 (by omega))
  have HD := Lib.hid (hr.sub 24 16 (by omega))
  have l1 : ((zs.drop 8).take 16).length = 16 := by simp; omega
  have l2 : ((zs.drop 24).take 16).length = 16 := by simp; omega
  have C1 := Lib.hid (fun w' z (hw : Rd w' z (nus .u8 ((zs.drop 8).take 16))) => from_ok z true _ w' hw (.inr ⟨l1, rfl⟩))
  have C2 := Lib.hid (fun w' z (hw : Rd w' z (nus .u8 ((zs.drop 24).take 16))) => from_ok z true _ w' hw (.inr ⟨l2, rfl⟩))
  rw [l1, show (zs.drop 8).take 16 ++ List.replicate (16 - 16) 0 = (zs.drop 8).take 16 from by simp, show adr true ((zs.drop 8).take 16) = .agg (srcA zs) from rfl] at C1
  rw [l2, show (zs.drop 24).take 16 ++ List.replicate (16 - 16) 0 = (zs.drop 24).take 16 from by simp, show adr true ((zs.drop 24).take 16) = .agg (dstA zs) from rfl] at C2
  have hh : hd6 zs = scells (40 + u2 zs 4) (zs.getD 6 0) (srcA zs) (dstA zs) := by unfold hd6; rw [if_pos h]
  obtain ⟨sS, sD⟩ := ad_size zs h40
  have aS : (srcA zs).all (·.oneCell') = true := cellsA_all _ _
  have aD : (dstA zs).all (·.oneCell') = true := cellsA_all _ _
  rw [hh]
  generalize srcA zs = S at *
  generalize dstA zs = D at *
  generalize u2 zs 4 = l at *
  generalize zs.getD 6 0 = p at *
  have hbd := built_s (40 + l) p S D sS sD
  have hs := scells_size (40 + l) p S D sS sD
  have ha := scells_all (40 + l) p S D aS aD
  generalize scells (40 + l) p S D = H at *
  have HB := Lib.hid hbd
  have YS : Hid (S.size = Array.size (Zc17 : Array Value)) := sS
  have ZS := Lib.hid (i24.trans (congrArg some sS.symm))
  have AS := Lib.hid aS
  have YD : Hid (D.size = Array.size (Zc17 : Array Value)) := sD
  have ZD := Lib.hid (i24.trans (congrArg some sD.symm))
  have AD := Lib.hid aD
  have YH : Hid (H.size = Array.size (Zc36 : Array Value)) := hs
  have ZH := Lib.hid (i100.trans (congrArg some hs.symm))
  have AH := Lib.hid ha
  unfold maxLen at hlm
  have h6n : (6 : Int) < (zs.length : Int) := by omega
  clear hr hb h hce sS sD aS aD hs ha hbd l1 l2 hh C6
  generalize zs.length = n at *
  go_enter Try.func59, Try.ntmps59
  have hal := (Below.refl w.heap.size w).alloc (Nat.le_refl _) (.cells Zc36 107)
  replace K := Lib.hid (K.out.trans (hal.mono K.out.size))
  replace HR := Lib.hid (HR.out.below hal)
  replace HS := Lib.hid (HS.out.below hal)
  replace HD := Lib.hid (HD.out.below hal)
  have HH := Lib.hid (Blk.new w 107 Zc36)
  clear hal
  go_wp2_with fail
  generalize (w.alloc (.cells Zc36 107)) = V1 at *
  refine (CF.out _ HR.out).mono ?_
  rintro e V2 ⟨rfl, rfl⟩
  go_wp2_with fail
  refine (C1.out _ _ HS.out).mono ?_
  rintro e V3 ⟨rfl, hy⟩
  replace K := Lib.hid (K.out.trans (hy.mono K.out.size))
  replace HR := Lib.hid (HR.out.below hy)
  replace HS := Lib.hid (HS.out.below hy)
  replace HD := Lib.hid (HD.out.below hy)
  replace HH := Lib.hid (HH.out.below hy HH.out.lt)
  clear hy
  go_wp2_with (((with_reducible refine wpList_blk_store (op := ⟨none, .store 27 (.tmp 5) (.tmp 19), _, _, _, _⟩) ?sg2 27 (.tmp 5) (.tmp 19) ?so2 (V3.heap.size) S ?sx2 ?sy2 (Blk.new V3 27 Zc17) YS.out ZS.out AS.out ?_); (case sg2 => rfl); (case so2 => rfl); (case sx2 => rfl); (case sy2 => rfl)))
  have qHHNS : w.heap.size < V3.heap.size := HH.out.lt
  intro V4 hA hF hB
  have hy := ((Below.refl V3.heap.size V3).alloc (Nat.le_refl _) (.cells Zc17 27)).trans (hB _ (Nat.le_refl _))
  replace K := Lib.hid (K.out.trans (hy.mono K.out.size))
  replace HR := Lib.hid (HR.out.below hy)
  replace HS := Lib.hid (HS.out.below hy)
  replace HD := Lib.hid (HD.out.below hy)
  replace HH := Lib.hid (HH.out.below hy HH.out.lt)
  have NS := Lib.hid hA
  clear hA hF hB hy
  go_wp2_with fail
  refine (C2.out _ _ HD.out).mono ?_
  rintro e V5 ⟨rfl, hy⟩
  replace K := Lib.hid (K.out.trans (hy.mono K.out.size))
  replace HR := Lib.hid (HR.out.below hy)
  replace HS := Lib.hid (HS.out.below hy)
  replace HD := Lib.hid (HD.out.below hy)
  replace HH := Lib.hid (HH.out.below hy HH.out.lt)
  replace NS := Lib.hid (NS.out.below hy NS.out.lt)
  clear hy
  go_wp2_with (((with_reducible refine wpList_blk_store (op := ⟨none, .store 27 (.tmp 7) (.tmp 25), _, _, _, _⟩) ?sg3 27 (.tmp 7) (.tmp 25) ?so3 (V5.heap.size) D ?sx3 ?sy3 (Blk.new V5 27 Zc17) YD.out ZD.out AD.out ?_); (case sg3 => rfl); (case so3 => rfl); (case sx3 => rfl); (case sy3 => rfl)))
  have qHHND : w.heap.size < V5.heap.size := HH.out.lt
  have qNSND : V3.heap.size < V5.heap.size := NS.out.lt
  intro V6 hA hF hB
  have hy := ((Below.refl V5.heap.size V5).alloc (Nat.le_refl _) (.cells Zc17 27)).trans (hB _ (Nat.le_refl _))
  replace K := Lib.hid (K.out.trans (hy.mono K.out.size))
  replace HR := Lib.hid (HR.out.below hy)
  replace HS := Lib.hid (HS.out.below hy)
  replace HD := Lib.hid (HD.out.below hy)
  replace HH := Lib.hid (HH.out.below hy HH.out.lt)
  replace NS := Lib.hid (NS.out.below hy NS.out.lt)
  have ND := Lib.hid hA
  clear hA hF hB hy
  go_wp2_with fail
  refine wp_region_still_tail 8 (by kernel_rfl) (by kernel_rfl) ?_
  change wpStill _ _ V6.drew (fun a' => wpList _ _ _ _ a' V6.drew) _ _
  have hy := (Below.refl V6.heap.size V6).drew
  replace K := Lib.hid (K.out.trans (hy.mono K.out.size))
  replace HR := Lib.hid (HR.out.below hy)
  replace HS := Lib.hid (HS.out.below hy)
  replace HD := Lib.hid (HD.out.below hy)
  replace HH := Lib.hid (HH.out.below hy HH.out.lt)
  replace NS := Lib.hid (NS.out.below hy NS.out.lt)
  replace ND := Lib.hid (ND.out.below hy ND.out.lt)
  clear hy
  generalize V6.drew = V7 at *
  have c6 := (K.out.cell (p := ⟨b, off + 6, none⟩) hb0).trans c6.out
  simp only [List.take_succ_cons, List.take_zero, List.drop_succ_cons, List.drop_zero]
  still_step
  still_call ((CL.out _ HR.out).mono fun e w' h => ⟨h.1, h.2.symm⟩)
  still_step
  still_step
  still_step
  refine wpStill_step (fun K hK => ?_)
  rw [if_pos (by rfl)]
  refine still_load 27 (.tmp 5) rfl _ rfl (.agg S) (run_blk_load (P := Try.prog) 27 (V3.heap.size) _ NS.out Try.underlying27 rfl ZS.out) (hK _ ?_)
  clear hK K
  refine wpStill_step (fun K hK => ?_)
  rw [if_pos (by rfl)]
  refine still_load 27 (.tmp 7) rfl _ rfl (.agg D) (run_blk_load (P := Try.prog) 27 (V5.heap.size) _ ND.out Try.underlying27 rfl ZD.out) (hK _ ?_)
  clear hK K
  refine wpStill_step (fun K hK => ?_)
  rw [if_pos (by rfl)]
  refine still_build2 107 _ rfl #[(0, .int .i64 ((40 + l : Nat) : Int)), (1, .int .u8 (p : Int)), (2, .agg S), (3, .agg D)] (by kernel_rfl) H HB.out (hK _ ?_)
  clear hK K
  refine wpStill_nil ?_
  simp only [Act.put, tS1, tS2, tS3]
  go_wp2_with (((with_reducible refine wpList_blk_store (op := ⟨none, .store 107 (.tmp 2) (.tmp 34), _, _, _, _⟩) ?sg4 107 (.tmp 2) (.tmp 34) ?so4 (w.heap.size) H ?sx4 ?sy4 HH.out YH.out ZH.out AH.out ?_); (case sg4 => rfl); (case so4 => rfl); (case sx4 => rfl); (case sy4 => rfl)))
  intro V8 hA hF hB
  replace K := Lib.hid (K.out.trans (hB _ (by omega)))
  replace NS := Lib.hid ((hF _ (by omega)).trans NS.out)
  replace ND := Lib.hid ((hF _ (by omega)).trans ND.out)
  replace HH := Lib.hid hA
  clear hA hF hB
  go_wp2
  have hrun := run_blk_load (P := Try.prog) 107 w.heap.size _ HH.out Try.underlying107 rfl ZH.out
  exact bodyPost_ret (results_cell_tmp 2 107 3 w.heap.size _ Try.results59 rfl hrun) rfl ⟨rfl, K.out⟩
set_option maxRecDepth 100000 in
theorem read6_any (v : Value) (zs : List Nat) (w : World) (hr : Rd w v (nus .u8 zs)) (hb : ∀ c ∈ zs, c < 256) :
    Calls Try.prog 59 #[v] w fun e w' => e = .returned (.tuple #[.agg (hd6 zs), .int .i64 (f6 zs : Nat)]) ∧ Below w.heap.size w w' := by
  by_cases h : f6 zs = 0
  · have := read6_yes v zs w hr hb h
    rw [h]; exact this
  · have := read6_no v zs w hr hb h
    have e : hd6 zs = s0 := by unfold hd6; rw [if_neg h]
    rw [e]; exact this
end Go.Proofs.Ytnpibdjfafpegaa
namespace Go.Proofs.Ytnpibdjfafpegaa
open Go.RowKit
set_option maxRecDepth 100000 in
set_option maxHeartbeats 800000 in
theorem with_yes (v : Value) (zs : List Nat) (k n : Nat) (w : World) (hr : Rd w v (nus .u8 zs)) (hb : ∀ c ∈ zs, c < 256) (hk : k < 65536) (h0 : (net zs).2.2 = 0) (h1 : (net zs).1 = n + 2) (h2 : n + 2 ≤ zs.length) (h3 : n ≤ 16) :
    Calls Try.prog 27 #[v, .int .u16 (k : Int)] w fun e w' => ∃ x, e = .returned x ∧ w'.ownsRow w.heap.size 5 1 x (n + 2) (nus .u8 (zs.take n ++ bg 2 k)) ∧ Below w.heap.size w w' := by
  have HN := Lib.hid (net_any v zs w hr hb)
  have HR := Lib.hid hr
  obtain ⟨a, cap, rfl, hlc, hl, -⟩ := hr
  rw [nus_length] at hlc HN HR ⊢
  have hap := Lib.hid (fun w' (h : Rd w' (.slice a n cap) (nus .u8 (zs.take n))) => app16_any _ (zs.take n) k w' h (by simp; omega) hk)
  have htl : (zs.take n).length = n := by simp; omega
  have HT := Lib.hid htl
  rw [h0, h1] at HN
  have hfr := Lib.hid (HR.out.front n (by omega))
  generalize zs.length = len at *
  clear hb h0 h1 hk HR htl
  unfold maxLen at hl
  go_enter Try.func27, Try.ntmps27
  go_wp2_with fail
  refine HN.out.mono ?_; rintro e w' ⟨rfl, rfl⟩
  have hs : IntKind.i64.wrap (((n + 2 : Nat) : Int) - 2) = (n : Int) := by rw [IntKind.wrap_i64]; omega
  go_wp2_with fail
  refine (hap.out w hfr.out).mono ?_; rintro e w' ⟨x, rfl, ho, hb⟩
  rw [HT.out] at ho
  go_wp2
  go_ret
  exact ⟨_, rfl, ho, hb⟩
end Go.Proofs.Ytnpibdjfafpegaa
