/- bazaarref1.put16 into a row of the call's own. -/
import Derived.Test.YthbkboheeelbiaaRb
import Derived.Test.YthbkboheeelbiaaBg
namespace Go.Proofs.Ythbkboheeelbiaa
open Go.RowKit
theorem hi_i64 (v : Nat) (h : v < 65536) : IntKind.u8.wrap ((v : Int) / 256) = ((v / 256 : Nat) : Int) := by rw [IntKind.wrap_u8]; omega
theorem lo_i64 (v : Nat) : IntKind.u8.wrap (v : Int) = ((v % 256 : Nat) : Int) := by rw [IntKind.wrap_u8]; omega

set_option maxHeartbeats 800000 in
theorem rput16_any (g n cap base k v : Nat) (zs : List Nat) (w : World) (hown : w.ownsRow base 5 1 (.slice (some ⟨g, 0, none⟩) n cap) n (nus .u8 zs)) (hn : n ≤ maxLen) (hk : k + 2 ≤ n) (hv : v < 65536) :
    Calls Try.prog 17 #[.slice (some ⟨g, 0, none⟩) n cap, .int .i64 (k : Int), .int .i64 (v : Int)] w fun e w' => e = .returned (.tuple #[]) ∧ w'.ownsRow base 5 1 (.slice (some ⟨g, 0, none⟩) n cap) n (nus .u8 ((zs.set k (v / 256)).set (k + 1) (v % 256))) ∧ w.grownBy w' (some g) := by
  have hzl : zs.length = n := by have := hown.1; simpa [nus_length] using this
  unfold maxLen at hn
  have hcell := hown.cellAt k (by omega)
  have hcel2 := hown.cellAt (k + 1) (by omega)
  rw [nus_get _ _ _ (by omega)] at hcell hcel2
  have hfz := hown.frozenAt k
  have hfz2 := hown.frozenAt (k + 1)
  have e1 := hi_i64 v hv
  have e2 := lo_i64 v
  have hst := hown.stored k (.int .u8 ((v / 256 : Nat) : Int))
  rw [nus_set] at hst
  have hst2 := hst.1.stored (k + 1) (.int .u8 ((v % 256 : Nat) : Int))
  rw [nus_set] at hst2
  have HS := Lib.hid hst
  have HS2 := Lib.hid hst2
  clear hown hst hst2
  go_enter Try.func17, Try.ntmps17
  go_wp2
  refine bodyPost_end (results_none rfl _ _ _) rfl ?_
  exact ⟨rfl, HS2.out.1, grownBy_trans HS.out.2 HS2.out.2⟩
end Go.Proofs.Ythbkboheeelbiaa
