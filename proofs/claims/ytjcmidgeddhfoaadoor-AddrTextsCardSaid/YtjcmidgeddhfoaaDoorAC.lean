/- strings.Cut at a point. -/
import Derived.Test.YtjcmidgeddhfoaaDoorAF
import Derived.Lib.CutLaws
import Derived.RegionTactic
namespace Go.Proofs.YtjcmidgeddhfoaaDoor
open Go.RowKit Go.Lib

theorem indexByte46 : ∀ l : List UInt8, indexByte l 46 = index l [46]
  | [] => by decide
  | c :: l => by
    rw [index46_cons, indexByte, indexByte46 l]
    simp only [beq_iff_eq]

set_option maxHeartbeats 1000000 in
theorem slcut_any (s : ByteArray) (w : World) (hs : s.size ≤ 140737488355328) :
    Calls Tryd.prog 27 #[.string s, .string ⟨#[46]⟩] w fun e w' => e = .returned (.tuple #[.string ⟨(cut46 s.data.toList).1.toArray⟩, .string ⟨(cut46 s.data.toList).2.1.toArray⟩, .bool (cut46 s.data.toList).2.2]) ∧ Below w.heap.size w w' := by
  have C := Tryd.stringslite_Index_one s 46 w
  rw [indexByte46] at C
  unfold cut46
  rcases Lib.indexB_cases s ⟨#[46]⟩ with hix | ⟨i, hix, hroom⟩
  · obtain ⟨e1, e2, e3⟩ := Lib.cutB_miss s ⟨#[46]⟩ hix
    have e1 : (⟨(cut s.data.toList [46]).1.toArray⟩ : ByteArray) = _ := e1
    have e2 : (⟨(cut s.data.toList [46]).2.1.toArray⟩ : ByteArray) = _ := e2
    have e3 : (cut s.data.toList [46]).2.2 = _ := e3
    rw [e1, e2, e3]
    rw [show index s.data.toList [46] = -1 from hix] at C
    have H := Lib.hid C
    clear C hix e1 e2 e3
    go_enter Tryd.func27, Tryd.ntmps27
    go_wp2_with (go_at_call 32; refine H.out.mono ?_; rintro e w' ⟨rfl, rfl⟩)
    go_ret3
    exact ⟨rfl, Below.refl _ _⟩
  · obtain ⟨e1, e2, e3⟩ := Lib.cutB_hit s ⟨#[46]⟩ i hix
    have e1 : (⟨(cut s.data.toList [46]).1.toArray⟩ : ByteArray) = _ := e1
    have e2 : (⟨(cut s.data.toList [46]).2.1.toArray⟩ : ByteArray) = _ := e2
    have e3 : (cut s.data.toList [46]).2.2 = _ := e3
    rw [e1, e2, e3]
    rw [show index s.data.toList [46] = i from hix] at C
    have H := Lib.hid C
    have hz : (⟨#[46]⟩ : ByteArray).size = 1 := rfl
    rw [hz] at hroom ⊢
    clear C hix e1 e2 e3 hz
    have c1 : (0 : Int) ≤ ↑i := by omega
    have c2 : (↑i : Int) ≤ ↑s.size := by omega
    have c3 : (0 : Int) ≤ ↑i + 1 := by omega
    have c4 : (↑i + 1 : Int) ≤ ↑s.size := by omega
    go_enter Tryd.func27, Tryd.ntmps27
    go_wp2_with (go_at_call 32; refine H.out.mono ?_; rintro e w' ⟨rfl, rfl⟩)
    go_region
    go_wp2
    go_ret3
    exact ⟨rfl, (Below.refl _ _).drew⟩

set_option maxHeartbeats 400000 in
/-- strings.Cut at a point. -/
theorem cut_any (s : ByteArray) (w : World) (hs : s.size ≤ 140737488355328) :
    Calls Tryd.prog 22 #[.string s, .string ⟨#[46]⟩] w fun e w' => e = .returned (.tuple #[.string ⟨(cut46 s.data.toList).1.toArray⟩, .string ⟨(cut46 s.data.toList).2.1.toArray⟩, .bool (cut46 s.data.toList).2.2]) ∧ Below w.heap.size w w' := by
  have H := Lib.hid (slcut_any s w hs)
  go_enter Tryd.func22, Tryd.ntmps22
  go_wp2_with (go_at_call 27; refine H.out.mono ?_; rintro e w' ⟨rfl, hb⟩)
  go_ret3
  exact ⟨rfl, hb⟩
end Go.Proofs.YtjcmidgeddhfoaaDoor
