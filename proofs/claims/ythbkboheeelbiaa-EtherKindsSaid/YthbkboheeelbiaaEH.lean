/- bazaarlaw4.head: twelve bytes 0, a kind, more. -/
import Derived.Test.YthbkboheeelbiaaER
import Derived.Test.YthbkboheeelbiaaLt
namespace Go.Proofs.Ythbkboheeelbiaa
open Go.RowKit

set_option maxHeartbeats 800000 in
theorem head_any (v : Value) (zs : List Nat) (k : Nat) (w : World) (hr : Rd w v (nus .u8 zs)) (hz : zs.length ≤ 1000) (hv : ∀ a l c, v = .slice a l c → a = none → c = 0) (hk : k < 65536) :
    Calls Try.prog 13 #[.int .i64 (k : Int), v] w fun e w' => ∃ x, e = .returned x ∧ w'.ownsRow w.heap.size 5 1 x (14 + zs.length) (nus .u8 (List.replicate 12 0 ++ bg 2 k ++ zs)) ∧ Below w.heap.size w w' := by
  have HR := Lib.hid hr
  obtain ⟨a, cap, rfl, hlc, hl, -⟩ := hr
  have HN := Lib.hid (hv _ _ _ rfl)
  rw [nus_length] at hlc HR ⊢
  clear hv
  unfold maxLen at hl
  have e1 := hi_i64 k hk
  have e2 := lo_i64 k
  obtain ⟨len, hlen⟩ : ∃ n, n = zs.length := ⟨_, rfl⟩
  rw [← hlen] at hz hlc HR ⊢
  clear hlen
  go_enter Try.func13, Try.ntmps13
  obtain ⟨i0, hi, hz0, hz1, hz2⟩ := info_parts Try.info5
  have hbase : w.heap.size ≤ w.heap.size := Nat.le_refl _
  go_wp2_with (at_make; refine wpList_make_full _ rfl _ _ 22 rfl w.heap.size 5 i0 (.int .u8 0) 1 Try.underlying22 hi hz0 hz1 .i64 .i64 _ _ 12 rfl rfl ?c1 ?c2 ?c3 ?c4 hbase ?_)
  case c1 => omega
  case c2 => omega
  case c3 => rw [hz2]; omega
  case c4 => unfold maxLen; omega
  intro w1 o1 g1
  have B1 := Lib.hid ((Below.refl w.heap.size w).grown g1 (Nat.le_refl _) (fun k hk => by cases hk))
  rw [toList_madeCells_one] at o1
  have O1 := Lib.hid (show w1.ownsRow w.heap.size 5 1 _ 12 (nus .u8 (List.replicate 12 0)) from o1)
  clear o1 g1 hi hz0 hz1 hz2
  have ec : (#[.int .u8 ((k : Int) / 256), .int .u8 ((k : Int) % 256)] : Array Value) = (nus .u8 (bg 2 k)).toArray := by simp [nus, bg]; omega
  have b2 := (Below.refl w1.heap.size w1).alloc (Nat.le_refl _) (.cells (nus .u8 (bg 2 k)).toArray 5)
  have r2 := rd_lit w1 .u8 5 (bg 2 k) 2 (0, 0) rfl (by simp [maxLen])
  have O2 := Lib.hid (row_under O1.out b2)
  have R2 := Lib.hid r2
  have B2 := Lib.hid (B1.out.trans (b2.mono B1.out.size))
  have BL := Lib.hid b2
  clear b2 r2 O1
  go_wp2_with (at_builtin; refine wpList_app rfl (.tmp 5) (.tmp 11) rfl w.heap.size _ 12 (List.replicate 12 0) rfl O2.out (some _) 2 2 (bg 2 k) rfl R2.out ?c1 ?c2 ?c3 ?c4)
  case c1 => intro e; cases e
  case c2 => omega
  case c3 => exact B2.out.size
  intro v3 w3 o3 g3
  have b3 := B2.out.grown g3 B2.out.size (fun k e => (O2.out.lt k e).1)
  have R3 := Lib.hid (HR.out.below b3)
  have B3 := Lib.hid b3
  have O3 := Lib.hid (show w3.ownsRow w.heap.size 5 1 v3 14 (nus .u8 (List.replicate 12 0 ++ bg 2 k)) from o3)
  clear o3 b3 g3 O2 B2 R2 BL ec
  go_wp2_with (at_builtin; refine wpList_app rfl (.tmp 12) (.tmp 13) rfl w.heap.size _ 14 (List.replicate 12 0 ++ bg 2 k) rfl O3.out a len cap zs rfl R3.out HN.out ?d2 ?d3 ?d4)
  case d2 => omega
  case d3 => exact B3.out.size
  intro v4 w4 o4 g4
  have b4 := B3.out.grown g4 B3.out.size (fun k e => (O3.out.lt k e).1)
  have B4 := Lib.hid b4
  have O4 := Lib.hid o4
  clear o4 b4 g4 O3 B3 R3
  go_wp2
  go_ret
  exact ⟨_, rfl, O4.out, B4.out⟩
end Go.Proofs.Ythbkboheeelbiaa
