/- Contracts of bazaarref1.Update, bazaarref1.Be16 and bazaarlaw3.start16. -/
import Derived.Test.YtjcmidgeddhfoaaCW
namespace Go.Proofs.Ytjcmidgeddhfoaa
open Go.RowKit

theorem low16i (x : Nat) (h : x < 9223372036854775808) : bits .and .i64 (x : Int) 65535 = ((x % 65536 : Nat) : Int) := by
  have h127 : (BitVec.ofInt 64 65535).toNat = 2 ^ 16 - 1 := by decide
  have key : (BitVec.ofInt 64 (x : Int) &&& BitVec.ofInt 64 65535).toNat = ((x : Int) % ((2 ^ 64 : Nat) : Int)).toNat % 2 ^ 16 := by
    rw [BitVec.toNat_and, BitVec.toNat_ofInt, h127, Nat.and_two_pow_sub_one_eq_mod]
  show IntKind.i64.wrap ((BitVec.ofInt 64 (x : Int) &&& BitVec.ofInt 64 65535).toNat : Nat) = _
  rw [key, IntKind.wrap_i64]
  omega
theorem or_i64 (x y : Nat) (hx : x < 4294967296) (hy : y < 4294967296) : bits .or .i64 (x : Int) (y : Int) = ((x ||| y : Nat) : Int) := by
  have key : (BitVec.ofInt 64 (x : Int) ||| BitVec.ofInt 64 (y : Int)).toNat = x ||| y := by
    rw [BitVec.toNat_or, BitVec.toNat_ofInt, BitVec.toNat_ofInt]
    congr 1 <;> omega
  have hl : x ||| y < 4294967296 := Nat.or_lt_two_pow (n := 32) hx hy
  show IntKind.i64.wrap ((BitVec.ofInt 64 (x : Int) ||| BitVec.ofInt 64 (y : Int)).toNat : Nat) = _
  rw [key, IntKind.wrap_i64]
  omega
theorem be_or (p q : Nat) (hp : p < 256) (hq : q < 256) : bits .or .i64 ((p : Int) * 256) (q : Int) = ((p * 256 + q : Nat) : Int) := by
  have e : (p : Int) * 256 = ((p * 256 : Nat) : Int) := by omega
  rw [e, or_i64 _ _ (by omega) (by omega), nat_join 8 (p * 256) q (by omega) (by omega)]
theorem go_oni (x : Nat) (h : x < 4611686018427387904) : (x : Int) / 65536 + bits .and .i64 (x : Int) 65535 = ((x / 65536 + x % 65536 : Nat) : Int) := by
  rw [low16i x (by omega)]; omega
set_option maxHeartbeats 400000 in
theorem start16_any (s : Nat) (w : World) (h : s < 4294967296) :
    Calls Try.prog 8 #[.int .u32 (s : Int)] w fun e w' => e = .returned (.int .u16 ((s / 65536 : Nat) : Int)) ∧ w = w' := by
  have hs : IntKind.u16.wrap ((s : Int) / 65536) = ((s / 65536 : Nat) : Int) := by rw [IntKind.wrap_u16]; omega
  go_enter Try.func8, Try.ntmps8
  go_wp2
  go_ret
  exact ⟨rfl, rfl⟩
set_option maxHeartbeats 400000 in
theorem rupd_any (o f t : Nat) (w : World) (ho : o < 65536) (hf : f < 65536) (ht : t < 65536) :
    Calls Try.prog 15 #[.int .i64 (o : Int), .int .i64 (f : Int), .int .i64 (t : Int)] w fun e w' => e = .returned (.int .i64 (upd o f t : Nat)) ∧ w = w' := by
  obtain ⟨u, hu⟩ : ∃ u, u = (65535 - o) + (65535 - f) + t := ⟨_, rfl⟩
  have hi : (65535 : Int) - o + (65535 - f) + t = (u : Int) := by omega
  have HU := Lib.hid hu
  clear hu
  go_enter Try.func15, Try.ntmps15
  go_wp2
  go_loop [7] (fun v => ∃ x : Nat, gr x = gr u ∧ x < 4611686018427387904 ∧ v = .int .i64 x) (fun v => (intOf v).toNat)
  case atStart => exact ⟨u, rfl, by omega, rfl⟩
  case round =>
    obtain ⟨x, hg, hx, rfl⟩ := hrel
    have HG := Lib.hid hg
    clear hg hi
    by_cases hlt : 65535 < x
    · have hst := Lib.hid (gr_step x hlt)
      have ho := Lib.hid (go_oni x hx)
      have hlo := low16i x (by omega)
      go_wp2
      go_round
      case rel => exact ⟨x / 65536 + x % 65536, by rw [hst.out, HG.out], by omega, by rw [show ((x / 65536 + x % 65536 : Nat) : Int) = (x : Int) / 65536 + (x : Int) % 65536 from by omega]⟩
      case measure => simp [intOf]; omega
    · have hfin := Lib.hid (gr_lt u x HG.out (by omega))
      have hv : Hid ((65535 : Int) - (x : Int) = ((upd o f t : Nat) : Int)) := by
        show _ = _
        have e : upd o f t = 65535 - gr u := by rw [HU.out]; rfl
        have hl := gr_le u
        rw [e, hfin.out]; omega
      go_wp2
      go_ret
      exact ⟨ret_int (by rw [← hv.out]), rfl⟩
set_option maxRecDepth 100000 in
set_option maxHeartbeats 1000000 in
theorem be16_any (a : Option Addr) (len cap : Nat) (k : Nat) (zs : List Nat) (w : World) (hr : Rd w (.slice a len cap) (nus .u8 zs)) (hb : ∀ c ∈ zs, c < 256) (hk : k + 2 ≤ zs.length) :
    Calls Try.prog 21 #[.slice a len cap, .int .i64 (k : Int)] w fun e w' => e = .returned (.int .i64 ((zs.getD k 0 * 256 + zs.getD (k + 1) 0 : Nat) : Int)) ∧ ∃ n, w' = w.drewN n := by
  obtain ⟨a', c', e, h1, h2, h3⟩ := hr
  simp only [Value.slice.injEq, nus_length] at e
  obtain ⟨rfl, rfl, rfl⟩ := e
  rw [nus_length] at h1 h3
  unfold maxLen at h2
  rcases h3 with h3 | ⟨b, off, rfl, hbs, hc⟩
  · have : zs.length = 0 := by rw [(nus_nil _ _).1 h3]; rfl
    omega
  have c1 := hc k (by omega)
  have c2 := hc (k + 1) (by omega)
  rw [nus_get _ _ _ (by omega)] at c1 c2
  have hp := getD_lt zs hb k
  have hq := getD_lt zs hb (k + 1)
  obtain ⟨p, hpe⟩ : ∃ p, p = zs.getD k 0 := ⟨_, rfl⟩
  obtain ⟨q, hqe⟩ : ∃ q, q = zs.getD (k + 1) 0 := ⟨_, rfl⟩
  obtain ⟨len, hle⟩ : ∃ n, n = zs.length := ⟨_, rfl⟩
  rw [← hpe] at c1 hp ⊢
  rw [← hqe] at c2 hq ⊢
  rw [← hle] at h1 hk ⊢
  have HO := Lib.hid (be_or p q hp hq)
  have hk1 : k < len := by omega
  have hk2 : k + 1 < len := by omega
  have hkw : IntKind.i64.wrap ((k : Int) + 1) = (k : Int) + 1 := by rw [IntKind.wrap_i64]; omega
  have hpw : IntKind.i64.wrap (p : Int) = (p : Int) := by rw [IntKind.wrap_i64]; omega
  have hpw2 : IntKind.i64.wrap ((p : Int) * 256) = (p : Int) * 256 := by rw [IntKind.wrap_i64]; omega
  have hqw : IntKind.i64.wrap (q : Int) = (q : Int) := by rw [IntKind.wrap_i64]; omega
  have hki : (0 : Int) ≤ (k : Int) + 1 ∧ (k : Int) + 1 < (len : Int) := by omega
  have hkt : ((k : Int) + 1).toNat = k + 1 := by omega
  clear hc hbs hb hpe hqe hle
  go_enter Try.func21, Try.ntmps21
  go_wp2
  go_quiet (fail)
  go_wp2
  go_ret
  exact ⟨ret_int HO.out, _, rfl⟩
end Go.Proofs.Ytjcmidgeddhfoaa
