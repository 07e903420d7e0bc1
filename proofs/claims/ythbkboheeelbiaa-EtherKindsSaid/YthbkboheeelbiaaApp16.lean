/- The contract of octet.Append at 16 binary digits. -/
import Derived.Test.YthbkboheeelbiaaPut16
import Derived.Test.YthbkboheeelbiaaU8
namespace Go.Proofs.Ythbkboheeelbiaa
open Go.RowKit

set_option maxHeartbeats 400000 in
theorem app16_any (va : Value) (zs : List Nat) (v : Nat) (w : World) (hr : Rd w va (nus .u8 zs)) (hz : zs.length ≤ 140737488351232) (hv : v < 65536) :
    Calls Try.prog 16 #[va, .int .u16 v] w fun e w' => ∃ x, e = .returned x ∧ w'.ownsRow w.heap.size 5 1 x (zs.length + 2) (nus .u8 (zs ++ bg 2 v)) ∧ Below w.heap.size w w' := by
  obtain ⟨i0, hi, hz0, hz1, hz2⟩ := info_parts Try.info5
  obtain ⟨a, cap, rfl, hlc, hl, hx⟩ := hr
  rw [nus_length] at hlc hx ⊢
  obtain ⟨len, hlen⟩ : ∃ len, len = zs.length := ⟨_, rfl⟩
  rw [← hlen] at hlc hx hz ⊢
  have HL := Lib.hid hlen
  have HX := Lib.hid hx
  clear hlen hx
  unfold maxLen at hl
  go_enter Try.func16, Try.ntmps16
  have hbase : w.heap.size ≤ w.heap.size := Nat.le_refl _
  go_wp2_with (first
    | (go_at_call 19; refine (size16_any _).mono ?_; rintro e w' ⟨rfl, rfl⟩)
    | (at_make; refine wpList_make_full _ rfl _ _ 22 rfl w.heap.size 5 i0 (.int .u8 0) 1 Try.underlying22 hi hz0 hz1 .i64 .i64 _ _ (len + 2) rfl rfl ?c1 ?c2 ?c3 ?c4 hbase ?_))
  case c1 => omega
  case c2 => omega
  case c3 => rw [hz2]; omega
  case c4 => unfold maxLen; omega
  intro w1 hown hgr
  have hb1 : Below w.heap.size w w1 := (Below.refl _ _).grown hgr (Nat.le_refl _) (fun k hk => by cases hk)
  obtain ⟨hh, _⟩ := own_heap hown
  have hrd : Rd w1 (.slice a len cap) (nus .u8 zs) := (show Rd w (.slice a len cap) (nus .u8 zs) from ⟨a, cap, by rw [nus_length, HL.out], by rw [nus_length, ← HL.out]; exact hlc, hl, by rw [nus_length, ← HL.out]; exact HX.out⟩).below hb1
  have hsrc := Lib.hid hrd.src
  have HH := Lib.hid hh
  have HB1 := Lib.hid hb1
  clear hh hown hgr hrd hb1
  go_wp2_with (with_reducible refine wpList_copy_splice rfl (.tmp 11) (.tmp 12) 22 22 rfl 5 Try.underlying22 Try.size5 _ _ _ _ _ _ rfl rfl w.heap.size 0 _ 5 HH.out (nus .u8 zs) ?d1 ?d2 ?d3 (oneCell_nus _ _) w.heap.size w HB1.out (Nat.le_refl _) ?_)
  case d1 => rw [nus_length, ← HL.out]; exact (Nat.min_eq_left (by omega)).symm
  case d2 => exact hsrc.out
  case d3 => rw [nus_length, ← HL.out, size_made]; omega
  intro w2 h2 hb2
  have hh2 := h2.out
  rw [splice_made zs 2 _ HL.out] at hh2
  have hown2 := own_of_heap (base := w.heap.size) (n := len + 2) hh2 (Nat.le_refl _) (by rw [nus_length, List.length_append, List.length_replicate, ← HL.out]) (by unfold maxLen; omega)
  have HO := Lib.hid hown2
  have HB2 := Lib.hid hb2
  clear hh2 hown2 h2 hb2 hsrc HH HB1 HX
  go_wp2_with (go_at_call 20; (refine (put16_yes w.heap.size (len + 2) (len + 2) w.heap.size len v _ _ HO.out (by unfold maxLen; omega) (Nat.le_refl _) hv).mono ?_); rintro e w3 ⟨rfl, hown3, hgr3⟩)
  go_ret
  refine ⟨_, rfl, ?_, HB2.out.grown hgr3 HB2.out.size (fun k hk => by cases hk; exact Nat.le_refl _)⟩
  rw [putRow_app zs 2 v len HL.out] at hown3
  exact hown3
end Go.Proofs.Ythbkboheeelbiaa
