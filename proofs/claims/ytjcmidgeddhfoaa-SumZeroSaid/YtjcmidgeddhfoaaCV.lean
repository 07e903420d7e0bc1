/- Contracts of bazaarref1.Sum, Check and Change; chksum.Change of whatever rows. -/
import Derived.Test.YtjcmidgeddhfoaaCR
import Derived.Test.YtjcmidgeddhfoaaRow
namespace Go.Proofs.Ytjcmidgeddhfoaa
open Go.RowKit

set_option maxRecDepth 100000 in
set_option maxHeartbeats 1000000 in
theorem rsum_any (va : Value) (zs : List Nat) (start : Nat) (w : World) (hr : Rd w va (nus .u8 zs)) (hz : zs.length ≤ 2000) (hb : ∀ c ∈ zs, c < 256) (hs : start < 4294967296) :
    Calls Try.prog 10 #[va, .int .u32 (start : Int)] w fun e w' => e = .returned (.int .i64 (gr (start + wsp 0 zs) : Nat)) ∧ w = w' := by
  have HR := Lib.hid hr
  obtain ⟨a, cap, rfl, h1, h2, -⟩ := hr
  rw [nus_length] at h1 HR ⊢
  unfold maxLen at h2
  obtain ⟨len, hl⟩ : ∃ n, n = zs.length := ⟨_, rfl⟩
  rw [← hl] at h1 hz HR ⊢
  have HL := Lib.hid hl
  have HB := Lib.hid hb
  clear hl hb
  go_enter Try.func10, Try.ntmps10
  go_wp2
  go_loop [5, 6] (fun u i => ∃ j p s : Nat, p = 2 * j ∧ p ≤ len + 1 ∧ i = .int .i64 (p : Int) ∧ s = start + wsp 0 (zs.take p) ∧ u = .int .u64 (s : Int)) (fun _ i => len + 1 - (intOf i).toNat)
  case atStart => exact ⟨0, 0, start, rfl, by omega, rfl, by simp [wsp], rfl⟩
  case round =>
    obtain ⟨j, p, s, hp, hpl, rfl, hse, rfl⟩ := hrel
    have hsl : s < 4425600000 := by
      have := wsp_take_lt zs p HB.out
      rw [← HL.out] at this
      omega
    have HS := Lib.hid hse
    have HP := Lib.hid hp
    clear hse hp
    by_cases hlt : p < len
    · obtain ⟨b, o, rfl, hc⟩ := HR.out.cells (by omega)
      have c0 := hc p hlt
      have hx := getD_lt zs HB.out p
      have hw := wsp_two zs j (by rw [← HP.out, ← HL.out]; exact hlt)
      rw [show 2 * (j + 1) = p + 2 from by rw [HP.out]; omega, ← HP.out] at hw
      unfold w2 at hw
      rw [← HP.out] at hw
      have HW := Lib.hid hw
      obtain ⟨x, hxe⟩ : ∃ x, x = zs.getD p 0 := ⟨_, rfl⟩
      rw [← hxe] at c0 hx
      have HX := Lib.hid hxe
      have HC := Lib.hid hc
      clear hw hxe hc
      by_cases hlt2 : p + 1 < len
      · have c1 := HC.out (p + 1) hlt2
        have hy := getD_lt zs HB.out (p + 1)
        obtain ⟨y, hye⟩ : ∃ y, y = zs.getD (p + 1) 0 := ⟨_, rfl⟩
        rw [← hye] at c1 hy
        have HY := Lib.hid hye
        clear hye
        go_wp2
        go_round
        case rel => exact ⟨j + 1, p + 2, s + x * 256 + y, by have := HP.out; omega, by omega, by go_num, by have := HS.out; have := HX.out; have := HY.out; rw [HW.out, ← HX.out, ← HY.out]; omega, by go_num⟩
        case measure => simp [intOf]; omega
      · have hy : zs.getD (p + 1) 0 = 0 := by rw [List.getD_eq_getElem?_getD, List.getElem?_eq_none (by rw [← HL.out]; omega)]; rfl
        have HY := Lib.hid hy
        clear hy
        go_wp2
        go_round
        case rel => exact ⟨j + 1, p + 2, s + x * 256, by have := HP.out; omega, by omega, by go_num, by rw [HW.out, HY.out, ← HX.out, HS.out]; omega, by go_num⟩
        case measure => simp [intOf]; omega
    · have hse : s = start + wsp 0 zs := by rw [HS.out, List.take_of_length_le (by rw [← HL.out]; omega)]
      have HSE := Lib.hid hse
      clear hse
      go_wp2
      go_loop [5] (fun v => ∃ x : Nat, gr x = gr s ∧ x < 4611686018427387904 ∧ v = .int .u64 x) (fun v => (intOf v).toNat)
      case atStart => exact ⟨s, rfl, by omega, rfl⟩
      case round =>
        obtain ⟨x, hg, hx, rfl⟩ := hrel
        have HG := Lib.hid hg
        clear hg
        by_cases hlt : 65535 < x
        · have hst := Lib.hid (gr_step x hlt)
          have ho := Lib.hid (go_on x (by omega))
          go_wp2
          go_round
          case rel => exact ⟨x / 65536 + x % 65536, by rw [hst.out, HG.out], by omega, by rw [ho.out]⟩
          case measure => rw [ho.out]; simp [intOf]; omega
        · have hfin := Lib.hid (gr_lt s x HG.out (by omega))
          go_wp2
          go_ret
          exact ⟨ret_int (by rw [← HSE.out, ← hfin.out]), rfl⟩

set_option maxHeartbeats 400000 in
theorem rcheck_any (va : Value) (zs : List Nat) (w : World) (hr : Rd w va (nus .u8 zs)) (hz : zs.length ≤ 2000) (hb : ∀ c ∈ zs, c < 256) :
    Calls Try.prog 12 #[va] w fun e w' => e = .returned (.int .i64 (ck zs : Nat)) ∧ w = w' := by
  have hg := gr_le (wsp 0 zs)
  have hv : Hid ((65535 : Int) - (gr (wsp 0 zs) : Int) = ((ck zs : Nat) : Int)) := by
    show _ = _
    unfold ck
    omega
  go_enter Try.func12, Try.ntmps12
  go_wp2_with fail
  refine (rsum_any va zs 0 w hr hz hb (by omega)).mono ?_
  rintro e w' ⟨rfl, rfl⟩
  rw [Nat.zero_add]
  go_wp2
  go_ret
  exact ⟨ret_int hv.out, rfl⟩

/-- What Change answers, whatever the rows. -/
def chA (old : Nat) (F T : List Nat) : Nat := if F.length = T.length ∧ F.length % 2 = 0 then chg old F T (F.length / 2) else old
theorem chA_no (old : Nat) (F T : List Nat) (h : F.length ≠ T.length ∨ F.length % 2 ≠ 0) : chA old F T = old := by
  unfold chA; rw [if_neg (by omega)]
theorem chA_yes (old : Nat) (F T : List Nat) (m : Nat) (h : F.length = 2 * m) (h2 : T.length = 2 * m) : chA old F T = chg old F T m := by
  unfold chA; rw [if_pos (by omega), show F.length / 2 = m from by omega]
theorem change_any (old : Nat) (vf vt : Value) (F T : List Nat) (w : World) (hf : Rd w vf (nus .u8 F)) (ht : Rd w vt (nus .u8 T))
    (hz : F.length ≤ 140737488351232) (hbF : ∀ c ∈ F, c < 256) (hbT : ∀ c ∈ T, c < 256) (ho : old < 65536) :
    Calls Try.prog 13 #[.int .u16 (old : Int), vf, vt] w fun e w' => e = .returned (.int .u16 (chA old F T : Nat)) ∧ Below w.heap.size w w' := by
  by_cases h : F.length ≠ T.length ∨ F.length % 2 ≠ 0
  · rw [chA_no old F T h]; exact change_no old vf vt F T w hf ht h
  · rw [chA_yes old F T (F.length / 2) (by omega) (by omega)]
    exact change_yes old vf vt F T w hf ht (F.length / 2) (by omega) (by omega) hz hbF hbT ho

set_option maxRecDepth 100000 in
set_option maxHeartbeats 1000000 in
theorem rchange_any (old : Nat) (vf vt : Value) (F T : List Nat) (w : World) (hf : Rd w vf (nus .u8 F)) (ht : Rd w vt (nus .u8 T))
    (hz : F.length ≤ 1000) (hz2 : T.length ≤ 1000) (hbF : ∀ c ∈ F, c < 256) (hbT : ∀ c ∈ T, c < 256) (ho : old < 65536) :
    Calls Try.prog 14 #[.int .i64 (old : Int), vf, vt] w fun e w' => e = .returned (.int .i64 (chA old F T : Nat)) ∧ ∃ n, w' = w.drewN n := by
  have HF := Lib.hid hf
  have HT := Lib.hid ht
  obtain ⟨a1, c1, rfl, h1, h2, -⟩ := hf
  obtain ⟨a2, c2, rfl, h3, h4, -⟩ := ht
  rw [nus_length] at h1 h3 HF HT ⊢
  rw [nus_length]
  unfold maxLen at h2 h4
  obtain ⟨m, hm⟩ : ∃ m, m = F.length := ⟨_, rfl⟩
  obtain ⟨n, hn⟩ : ∃ n, n = T.length := ⟨_, rfl⟩
  rw [← hm] at h1 hz HF ⊢
  rw [← hn] at h3 hz2 HT ⊢
  have HM := Lib.hid hm
  have HN := Lib.hid hn
  have HBF := Lib.hid hbF
  have HBT := Lib.hid hbT
  clear hm hn hbF hbT
  by_cases hno : m ≠ n ∨ m % 2 ≠ 0
  · have HO := Lib.hid (chA_no old F T (by rw [← HM.out, ← HN.out]; exact hno))
    go_enter Try.func14, Try.ntmps14
    go_wp2
    all_goals
      go_ret
      exact ⟨ret_int (by rw [HO.out]), 0, rfl⟩
  · obtain ⟨k, hk⟩ : ∃ k, m = 2 * k := ⟨m / 2, by omega⟩
    have HO := Lib.hid (chA_yes old F T k (by rw [← HM.out, hk]) (by rw [← HN.out]; omega))
    obtain rfl : m = n := by omega
    have hm2 : ((m : Int) % 2 != 0) = false := by rw [bne_eq_false_iff_eq]; omega
    clear hno
    have HK := Lib.hid hk
    clear hk
    go_enter Try.func14, Try.ntmps14
    go_wp2
    go_loopw [0, 7] (fun u i wr => ∃ j p n : Nat, j ≤ k ∧ p = 2 * j ∧ i = .int .i64 (p : Int) ∧ u = .int .i64 (chg old F T j : Int) ∧ wr = w.drewN n) (fun _ i _ => m - (intOf i).toNat)
    case atStart => exact ⟨0, 0, 0, Nat.zero_le _, rfl, rfl, rfl, rfl⟩
    case round =>
      obtain ⟨j, p, n, hj, hp, rfl, rfl, rfl⟩ := hrel
      have hmk := HK.out
      by_cases hlt : j < k
      · have hpl : p + 2 ≤ m := by omega
        have hpm : p < m := by omega
        have HP := Lib.hid hp
        have HMK := Lib.hid hmk
        have hcl := chg_le old F T (by omega) j
        have e1 : F.getD p 0 * 256 + F.getD (p + 1) 0 = w2 F j := by rw [hp]; rfl
        have e2 : T.getD p 0 * 256 + T.getD (p + 1) 0 = w2 T j := by rw [hp]; rfl
        have l1 := w2_lt F j HBF.out
        have l2 := w2_lt T j HBT.out
        have E1 := Lib.hid e1
        have E2 := Lib.hid e2
        have hstep : Hid (upd (chg old F T j) (w2 F j) (w2 T j) = chg old F T (j + 1)) := show _ = _ from rfl
        obtain ⟨o, hoe⟩ : ∃ o, o = chg old F T j := ⟨_, rfl⟩
        rw [← hoe] at hcl hstep ⊢
        clear hp hmk e1 e2 hoe
        go_wp2_with fail
        refine (be16_any a1 m c1 p F (w.drewN n) HF.out HBF.out (by rw [← HM.out]; exact hpl)).mono ?_
        rintro e w' ⟨rfl, n1, rfl⟩
        rw [E1.out]
        go_wp2_with fail
        refine (be16_any a2 m c2 p T (w.drewN (n + n1)) HT.out HBT.out (by rw [← HN.out]; exact hpl)).mono ?_
        rintro e w' ⟨rfl, n2, rfl⟩
        rw [E2.out]
        go_wp2_with fail
        refine (rupd_any o (w2 F j) (w2 T j) _ (by omega) l1 l2).mono ?_
        rintro e w' ⟨rfl, rfl⟩
        rw [hstep.out]
        go_wp2
        go_roundw
        case rel => exact ⟨j + 1, p + 2, _, by omega, by have := HP.out; omega, by go_num, rfl, rfl⟩
        case measure => simp [intOf]; omega
      · obtain rfl : j = k := by omega
        have hpe : p = m := by omega
        clear hmk hp hlt
        go_wp2
        go_ret
        exact ⟨ret_int (by rw [HO.out]), _, rfl⟩
end Go.Proofs.Ytjcmidgeddhfoaa
