/- The contract of octet.Words: the copy it makes, and the function value that walks it. -/
import Derived.Test.YtacjkcmiiajabaaOctG
import Derived.RangeFuncNested
import Derived.RangeFuncBound
import Derived.RangeFuncCalls
import Derived.RangeFuncLeaves
import Derived.RangeFuncBox
import Derived.Shelf.Abstract
import Derived.Shelf.RegionOpen
import Derived.OwnWalkIn
import Derived.TacticsInMore
import Derived.LoopNIn
import Derived.LoopIn
import Derived.Maps.AppendAt
namespace Go.Proofs.Ytacjkcmiiajabaa
open Go.RowKit Go.Shelf
attribute [local go_sem] Oper.semAt_some

/-- A row with a byte 0 behind where it is odd. -/
def even (zs : List Nat) : List Nat := zs ++ List.replicate (zs.length % 2) 0
theorem even_length (zs : List Nat) : (even zs).length = zs.length + zs.length % 2 := by simp [even]

set_option maxHeartbeats 400000 in
theorem words_any (va : Value) (zs : List Nat) (w : World) (hr : Rd w va (nus .u8 zs)) (hz : zs.length ≤ 140737488351232) :
    Calls Try.prog 34 #[va] w fun e w' => ∃ Be g, e = .returned (.func (.func 36) #[] #[.pointer (some ⟨Be, 0, none⟩)]) ∧ w.heap.size ≤ Be ∧ w.heap.size ≤ g ∧ Boxed w' Be 22 (.slice (some ⟨g, 0, none⟩) (even zs).length (even zs).length) ∧ w'.heap[g]? = some (.cells (nus .u8 (even zs)).toArray 5 (0, 0)) ∧ Below w.heap.size w w' := by
  obtain ⟨i0, hi, hz0, hz1, hz2⟩ := info_parts Try.info5
  obtain ⟨a, cap, rfl, hlc, hl, hx⟩ := hr
  rw [nus_length] at hlc hx ⊢
  obtain ⟨len, hlen⟩ : ∃ len, len = zs.length := ⟨_, rfl⟩
  rw [← hlen] at hlc hx hz ⊢
  have HL := Lib.hid hlen
  have HX := Lib.hid hx
  clear hlen hx
  unfold maxLen at hl
  go_enter Try.func34, Try.ntmps34
  have hbase : w.heap.size ≤ w.heap.size := Nat.le_refl _
  go_wp2_with (at_make; refine wpList_make_full _ rfl _ _ 22 rfl w.heap.size 5 i0 (.int .u8 0) 1 Try.underlying22 hi hz0 hz1 .i64 .i64 _ _ (len + len % 2) rfl rfl ?c1 ?c2 ?c3 ?c4 hbase ?_)
  case c1 => omega
  case c2 => omega
  case c3 => rw [hz2]; omega
  case c4 => unfold maxLen; omega
  intro w1 hown hgr
  have hb1 : Below w.heap.size w w1 := (Below.refl _ _).grown hgr (Nat.le_refl _) (fun k hk => by cases hk)
  obtain ⟨hh, _⟩ := own_heap hown
  have hsz1 : w.heap.size < w1.heap.size := (Array.getElem?_eq_some_iff.1 hh).1
  obtain ⟨sv, hsv⟩ : ∃ sv, sv = Value.slice (some ⟨w.heap.size, 0, none⟩) (len + len % 2) (len + len % 2) := ⟨_, rfl⟩
  have hh2 := (Below.heap_alloc w1 (.cells #[sv] 22) w.heap.size hsz1).trans hh
  have hb2 := hb1.alloc (Nat.le_of_lt hsz1) (.cells #[sv] 22)
  have hbx := Boxed.new w1 22 sv
  have hrd : Rd (w1.alloc (.cells #[sv] 22)) (.slice a len cap) (nus .u8 zs) := (show Rd w (.slice a len cap) (nus .u8 zs) from ⟨a, cap, by rw [nus_length, HL.out], by rw [nus_length, ← HL.out]; exact hlc, hl, by rw [nus_length, ← HL.out]; exact HX.out⟩).below hb2
  rw [hsv] at hh2 hb2 hbx hrd
  have hsrc := Lib.hid hrd.src
  have HH := Lib.hid hh2
  have HB2 := Lib.hid hb2
  have HBX := Lib.hid hbx
  clear hh hown hgr hb1 hh2 hb2 hbx hrd hsv
  go_wp2_with (with_reducible refine copy_grown rfl (.tmp 11) (.tmp 12) 22 22 rfl 5 Try.underlying22 Try.size5 _ _ _ _ _ _ rfl rfl w.heap.size 0 _ 5 HH.out (nus .u8 zs) ?d1 ?d2 ?d3 (oneCell_nus _ _) ?_)
  case d1 => rw [nus_length, ← HL.out]; exact (Nat.min_eq_left (by omega)).symm
  case d2 => exact hsrc.out
  case d3 => rw [nus_length, ← HL.out, size_made]; omega
  intro w2 h2 hg2
  have hh2 := h2.out
  rw [splice_made zs (len % 2) _ HL.out] at hh2
  have hbx2 := HBX.out.kept hg2 (by simp; omega)
  have hb3 := HB2.out.grown hg2 HB2.out.size (fun k hk => by cases hk; exact Nat.le_refl _)
  have HE : Hid (zs ++ List.replicate (len % 2) 0 = even zs) := by unfold even; rw [← HL.out]; exact rfl
  have HEL : Hid ((even zs).length = len + len % 2) := by unfold even; rw [List.length_append, List.length_replicate, ← HL.out]; exact rfl
  rw [HE.out] at hh2
  rw [← HEL.out] at hbx2
  have HO := Lib.hid hh2
  have HB3 := Lib.hid hb3
  have HX2 := Lib.hid hbx2
  clear hh2 h2 hsrc HH HX HB2 HBX hg2 hbx2 hb3
  go_wp2
  go_ret
  exact ⟨_, _, rfl, Nat.le_of_lt hsz1, Nat.le_refl _, HX2.out, HO.out, HB3.out⟩
end Go.Proofs.Ytacjkcmiiajabaa
