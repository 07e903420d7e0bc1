/- Texts that the walks of this seat lean on, put together. -/
import Derived.Test.YtnpibdjfafpegaaTk
import Derived.Test.YtnpibdjfafpegaaM04
import Derived.Test.YtnpibdjfafpegaaM09
namespace Go.Proofs.Ytnpibdjfafpegaa
open Go.RowKit
set_option maxRecDepth 100000 in
set_option maxHeartbeats 1000000 in
theorem rsum_any (va : Value) (zs : List Nat) (start : Nat) (w : World) (hr : Rd w va (nus .u8 zs)) (hz : zs.length ≤ 2000) (hb : ∀ c ∈ zs, c < 256) (hs : start < 4294967296) :
    Calls Try.prog 23 #[va, .int .u32 (start : Int)] w fun e w' => e = .returned (.int .i64 (gr (start + wsp 0 zs) : Nat)) ∧ w = w' := by
  have HR := Lib.hid hr
  obtain ⟨a, cap, rfl, h1, h2, -⟩ := hr
  rw [nus_length] at h1 HR ⊢
  unfold maxLen at h2
  obtain ⟨len, hl⟩ : ∃ n, n = zs.length := ⟨_, rfl⟩
  rw [← hl] at h1 hz HR ⊢
  have HL := Lib.hid hl
  have HB := Lib.hid hb
  clear hl hb
  go_enter Try.func23, Try.ntmps23
  go_wp2
  go_loop [5, 6] (fun u i => ∃ j p s : Nat, p = 2 * j ∧ p ≤ len + 1 ∧ i = .int .i64 (p : Int) ∧ s = start + wsp 0 (zs.take p) ∧ u = .int .u64 (s : Int)) (fun _ i => len + 1 - (intOf i).toNat)
  case atStart => exact ⟨0, 0, start, rfl, by omega, rfl, by simp [wsp], rfl⟩
  case round =>
    obtain ⟨j, p, s, hp, hpl, rfl, hse, rfl⟩ := hrel
    have hsl : s < 4425600000 := by
      have := wsp_take_lt zs p HB.out
      rw [← HL.out] at this
      omega
    have HS := Lib.hid hse
    have HP := Lib.hid hp
    clear hse hp
    by_cases hlt : p < len
    · obtain ⟨b, o, rfl, hc⟩ := HR.out.cells (by omega)
      have c0 := hc p hlt
      have hx := getD_lt zs HB.out p
      have hw := wsp_two zs j (by rw [← HP.out, ← HL.out]; exact hlt)
      rw [show 2 * (j + 1) = p + 2 from by rw [HP.out]; omega, ← HP.out] at hw
      unfold w2 at hw
      rw [← HP.out] at hw
      have HW := Lib.hid hw
      obtain ⟨x, hxe⟩ : ∃ x, x = zs.getD p 0 := ⟨_, rfl⟩
      rw [← hxe] at c0 hx
      have HX := Lib.hid hxe
      have HC := Lib.hid hc
      clear hw hxe hc
      by_cases hlt2 : p + 1 < len
      · have c1 := HC.out (p + 1) hlt2
        have hy := getD_lt zs HB.out (p + 1)
        obtain ⟨y, hye⟩ : ∃ y, y = zs.getD (p + 1) 0 := ⟨_, rfl⟩
        rw [← hye] at c1 hy
        have HY := Lib.hid hye
        clear hye
        go_wp2
        go_round
        case rel => exact ⟨j + 1, p + 2, s + x * 256 + y, by have := HP.out; omega, by omega, by go_num, by have := HS.out; have := HX.out; have := HY.out; rw [HW.out, ← HX.out, ← HY.out]; omega, by go_num⟩
        case measure => simp [intOf]; omega
      · have hy : zs.getD (p + 1) 0 = 0 := by rw [List.getD_eq_getElem?_getD, List.getElem?_eq_none (by rw [← HL.out]; omega)]; rfl
        have HY := Lib.hid hy
        clear hy
        go_wp2
        go_round
        case rel => exact ⟨j + 1, p + 2, s + x * 256, by have := HP.out; omega, by omega, by go_num, by rw [HW.out, HY.out, ← HX.out, HS.out]; omega, by go_num⟩
        case measure => simp [intOf]; omega
    · have hse : s = start + wsp 0 zs := by rw [HS.out, List.take_of_length_le (by rw [← HL.out]; omega)]
      have HSE := Lib.hid hse
      clear hse
      go_wp2
      go_loop [5] (fun v => ∃ x : Nat, gr x = gr s ∧ x < 4611686018427387904 ∧ v = .int .u64 x) (fun v => (intOf v).toNat)
      case atStart => exact ⟨s, rfl, by omega, rfl⟩
      case round =>
        obtain ⟨x, hg, hx, rfl⟩ := hrel
        have HG := Lib.hid hg
        clear hg
        by_cases hlt : 65535 < x
        · have hst := Lib.hid (gr_step x hlt)
          have ho := Lib.hid (go_on x (by omega))
          go_wp2
          go_round
          case rel => exact ⟨x / 65536 + x % 65536, by rw [hst.out, HG.out], by omega, by rw [ho.out]⟩
          case measure => rw [ho.out]; simp [intOf]; omega
        · have hfin := Lib.hid (gr_lt s x HG.out (by omega))
          go_wp2
          go_ret
          exact ⟨ret_int (by rw [← HSE.out, ← hfin.out]), rfl⟩
set_option maxHeartbeats 400000 in
theorem rcheck_any (va : Value) (zs : List Nat) (w : World) (hr : Rd w va (nus .u8 zs)) (hz : zs.length ≤ 2000) (hb : ∀ c ∈ zs, c < 256) :
    Calls Try.prog 15 #[va] w fun e w' => e = .returned (.int .i64 (ck zs : Nat)) ∧ w = w' := by
  have hg := gr_le (wsp 0 zs)
  have hv : Hid ((65535 : Int) - (gr (wsp 0 zs) : Int) = ((ck zs : Nat) : Int)) := by
    show _ = _
    unfold ck
    omega
  go_enter Try.func15, Try.ntmps15
  go_wp2_with fail
  refine (rsum_any va zs 0 w hr hz hb (by omega)).mono ?_
  rintro e w' ⟨rfl, rfl⟩
  rw [Nat.zero_add]
  go_wp2
  go_ret
  exact ⟨ret_int hv.out, rfl⟩
end Go.Proofs.Ytnpibdjfafpegaa
