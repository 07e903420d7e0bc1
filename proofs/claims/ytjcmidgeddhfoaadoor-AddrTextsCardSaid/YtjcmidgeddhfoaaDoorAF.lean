/- What the package-level variables of Go's library hold; the decimal numeral of a number; a byte read of a text. -/
import Derived.Test.YtjcmidgeddhfoaaDoorShelf
import Derived.Test.YtjcmidgeddhfoaaDoorAM
import Derived.Lib.AppendIntMem
import Derived.Lib.AtoiErrMem
import Derived.WalkKit
import Derived.WalkSpells
import Derived.WalkLawsBesides
import Derived.BigCall
import Derived.BigGuard
import Derived.BigQuiet
import Derived.Deep.QuietTactic
import Derived.Lib.Hide
namespace Go.Proofs.YtjcmidgeddhfoaaDoor
open Go.RowKit Go.Sort Go.Lib

/-- What the walks ask of the package-level variables: the table of powers, two errors. -/
structure Env (w : World) : Prop where
  tab : Lib.TabIs Tryd.prog w "internal/strconv.uint64pow10" .u64 Lib.pow10Tab
  syn : ∃ ev, w.cell? ⟨2, 0, none⟩ = some ev ∧ (ev = .nilIface ∨ ∃ te pe, ev = .iface te pe)
  rng : ∃ ev, w.cell? ⟨3, 0, none⟩ = some ev ∧ (ev = .nilIface ∨ ∃ te pe, ev = .iface te pe)
  size : 4 ≤ w.heap.size
theorem Env.below {w w' : World} (h : Env w) (hb : Below w.heap.size w w') : Env w' :=
  ⟨Lib.tabBelow_of_tabIs h.tab w' hb,
   by obtain ⟨ev, h1, h2⟩ := h.syn; exact ⟨ev, (hb.cell (p := ⟨2, 0, none⟩) (by have := h.size; simp; omega)).trans h1, h2⟩,
   by obtain ⟨ev, h1, h2⟩ := h.rng; exact ⟨ev, (hb.cell (p := ⟨3, 0, none⟩) (by have := h.size; simp; omega)).trans h1, h2⟩,
   by have := h.size; have := hb.size; omega⟩

set_option maxRecDepth 100000 in
theorem fmt_small (u : Nat) (hu : u < 100) (w : World) :
    Calls Tryd.prog 35 #[.int .u64 u, .int .i64 10] w fun e w' => e = .returned (.string ⟨(Lib.decDigits u).toArray⟩) ∧ Below w.heap.size w w' := by
  have iu : (u : Int) < 100 := by omega
  go_enter Tryd.func35, Tryd.ntmps35
  go_wp2_with (go_at_call 37; refine (Tryd.internal_strconv_small u hu _).mono ?_; rintro e w' ⟨rfl, rfl⟩)
  go_ret
  exact ⟨rfl, Below.refl _ _⟩

set_option maxRecDepth 100000 in
set_option maxHeartbeats 2000000 in
theorem fmt_big (u : Nat) (hu : 100 ≤ u) (hu64 : u < 18446744073709551616) (w : World) (htab : Lib.TabIs Tryd.prog w "internal/strconv.uint64pow10" .u64 Lib.pow10Tab) :
    Calls Tryd.prog 35 #[.int .u64 u, .int .i64 10] w fun e w' => e = .returned (.string ⟨(Lib.decDigits u).toArray⟩) ∧ Below w.heap.size w w' := by
  have hu1 : 1 ≤ u := by omega
  have hnd20 : Lib.nDigits u ≤ 20 := by have := Lib.numDigits_eq u hu1 hu64; split at this <;> omega
  have hal : Tryd.prog.arrayLen 63 = 24 := by simp [Program.arrayLen, Tryd.underlying63]
  have hsl : ∀ W, (Instr.sliceAt 63 (.pointer (some ⟨w.heap.size, 0, none⟩)) none (some (.int .i64 (Lib.nDigits u : Int))) none).run Tryd.prog W = .ok (.slice (some ⟨w.heap.size, 0, none⟩) (Lib.nDigits u) 24) W := fun W => by
    rw [run_sliceAt_array_h W 63 ⟨w.heap.size, 0, none⟩ (by simp [Program.arrayLen, Program.elem, Tryd.underlying63]) .i64 (Lib.nDigits u : Int) (by omega) (by rw [hal]; omega)]
    go_simp
  have hH0 := Lib.holds_zero0 w 63 (Lib.nDigits u) (by omega)
  have hfmt := Tryd.internal_strconv_formatBase10 w.heap.size 0 24 u (Array.replicate (Lib.nDigits u) 0) (w.alloc (.cells Lib.zeros24 63)) hH0 (by rw [Array.size_replicate]; exact Lib.lt_pow_nDigits u) hu64 (by rw [Array.size_replicate]; omega)
  rw [Array.size_replicate] at hfmt
  have HH0 := Lib.hid hH0
  have iu : (100 : Int) ≤ (u : Int) := by omega
  clear hH0 hal
  go_enter Tryd.func35, Tryd.ntmps35
  go_wp2_with (first
    | (go_at_call 38; refine (Tryd.internal_strconv_numDigits u hu1 hu64 _ (Lib.tabIs_alloc htab _)).mono ?_; rintro e w' ⟨rfl, rfl⟩))
  go_at_call 39
  refine hfmt.mono ?_
  rintro e w' ⟨rfl, k, v', dk, rfl, hF⟩
  have hcv : (convert 32 9 (.slice (some ⟨w.heap.size, 0, none⟩) (Lib.nDigits u) 24)).run Tryd.prog ((putRow (fun (b : UInt8) => Value.int .u8 (b.toNat : Int)) (w.alloc (.cells Lib.zeros24 63)) w.heap.size 0 dk).drewN k) = .ok (.string ⟨(Lib.decDigits u).toArray⟩) ((putRow (fun (b : UInt8) => Value.int .u8 (b.toNat : Int)) (w.alloc (.cells Lib.zeros24 63)) w.heap.size 0 dk).drewN k) := by
    have h := run_convert_bytes_back (P := Tryd.prog) ((putRow (fun (b : UInt8) => Value.int .u8 (b.toNat : Int)) (w.alloc (.cells Lib.zeros24 63)) w.heap.size 0 dk).drewN k) 32 9 5 ⟨w.heap.size, 0, none⟩ 24 (Lib.decDigits u) Tryd.underlying32 Tryd.underlying5 Tryd.underlying9 (fun j hj => by
      rw [Lib.row_is_numeral hF j hj, Lib.add_plain, World.cell?_drewN]
      exact cell?_putRow (fun (b : UInt8) => Value.int .u8 (b.toNat : Int)) _ w.heap.size 0 _ dk HH0.out (by rw [hF.size, Array.size_replicate]) j (by rw [hF.size]; rw [Lib.decDigits_length] at hj; exact hj))
    rw [Lib.decDigits_length] at h
    exact h
  obtain ⟨os, eo⟩ := Lib.fin_at w (.cells Lib.zeros24 63) dk k 0
  have hbl : Below w.heap.size w ((putRow (fun (b : UInt8) => Value.int .u8 (b.toNat : Int)) (w.alloc (.cells Lib.zeros24 63)) w.heap.size 0 dk).drewN k) := by rw [eo]; exact Lib.below_grow w.heap.size w (Nat.le_refl _) k os
  generalize (putRow (fun (b : UInt8) => Value.int .u8 (b.toNat : Int)) (w.alloc (.cells Lib.zeros24 63)) w.heap.size 0 dk).drewN k = W2 at hcv hbl ⊢
  clear eo HH0 hfmt
  go_wp2
  go_ret
  exact ⟨rfl, hbl⟩

set_option maxHeartbeats 400000 in
/-- strconv.FormatUint at base 10. -/
theorem fmt_any (u : Nat) (hu64 : u < 18446744073709551616) (w : World) (hE : Env w) :
    Calls Tryd.prog 29 #[.int .u64 u, .int .i64 10] w fun e w' => e = .returned (.string ⟨(Lib.decDigits u).toArray⟩) ∧ Below w.heap.size w w' := by
  have h : Calls Tryd.prog 35 #[.int .u64 u, .int .i64 10] w fun e w' => e = .returned (.string ⟨(Lib.decDigits u).toArray⟩) ∧ Below w.heap.size w w' := by
    by_cases hu : u < 100
    · exact fmt_small u hu w
    · exact fmt_big u (by omega) hu64 w hE.tab
  have H := Lib.hid h
  clear h
  go_enter Tryd.func29, Tryd.ntmps29
  go_wp2_with (go_at_call 35; refine H.out.mono ?_; rintro e w' ⟨rfl, hb⟩)
  go_ret
  exact ⟨rfl, hb⟩

theorem below_bytes (w : World) (t : TypeId) (s : ByteArray) {w' : World} (h : w' = w ∨ w' = Lib.bytesWorld w t s) : Below w.heap.size w w' := by
  rcases h with rfl | rfl
  · exact Below.refl _ _
  · exact bytesWorld_below w t s

theorem bytes_eq (s : ByteArray) (l : List UInt8) (h : l = s.data.toList) : (⟨l.toArray⟩ : ByteArray) = s := by
  subst h; cases s; simp

set_option maxHeartbeats 1000000 in
/-- A byte in decimal is read. -/
theorem pb_yes (s : ByteArray) (u : Nat) (hs : s.size ≤ 140737488355328) (h : byteOf s.data.toList = some u) (w : World) (hE : Env w) :
    Calls Tryd.prog 23 #[.string s] w fun e w' => e = .returned (.tuple #[.int .u8 u, .bool true]) ∧ Below w.heap.size w w' := by
  obtain ⟨hu, hd⟩ := byteOf_some h
  have hp : Lib.parseUintB 8 s.data.toList = .ok u := by
    rw [← hd, dec_dec3 u (by omega)]; exact parse_dec3 ⟨u, hu⟩
  have C := Lib.hid (Tryd.strconv_ParseUint_10_at8_ok s (by omega) u hp w)
  have es := bytes_eq s _ hd
  have HE := Lib.hid hE
  clear h hd hp hE
  subst es
  go_enter Tryd.func23, Tryd.ntmps23
  go_wp2_with fail
  refine C.out.mono ?_
  rintro e w1 ⟨rfl, hw⟩
  have hb := below_bytes w _ _ hw
  have HW := Lib.hid hw
  clear hw
  go_wp2_with fail
  refine (fmt_any u (by omega) w1 (HE.out.below hb)).mono ?_
  rintro e w2 ⟨rfl, hb2⟩
  go_wp2
  go_ret2
  exact ⟨rfl, hb.trans (hb2.mono hb.size)⟩

set_option maxHeartbeats 1000000 in
/-- Of no byte in decimal none is. -/
theorem pb_no (s : ByteArray) (hs : s.size ≤ 140737488355328) (h : byteOf s.data.toList = none) (w : World) (hE : Env w) :
    Calls Tryd.prog 23 #[.string s] w fun e w' => e = .returned (.tuple #[.int .u8 0, .bool false]) ∧ Below w.heap.size w w' := by
  rcases hp : Lib.parseUintB 8 s.data.toList with u | _ | _
  · have hu : u < 256 := by
      unfold Lib.parseUintB at hp
      split at hp
      · cases hp
      · have := parseM_le _ _ _ _ (Nat.zero_le _) hp
        omega
    have hne : ¬ decDigits u = s.data.toList := by
      intro e
      unfold byteOf at h
      rw [hp] at h
      have h : (if decDigits u = s.data.toList then some u else none) = none := h
      rw [if_pos e] at h
      cases h
    have hcmp : (decDigits u == s.toList) = false := by
      rw [ByteArray.toList_eq, beq_eq_false_iff_ne]
      exact hne
    have C := Lib.hid (Tryd.strconv_ParseUint_10_at8_ok s (by omega) u hp w)
    have HC := Lib.hid hcmp
    have HE := Lib.hid hE
    clear h hp hE hne hcmp
    go_enter Tryd.func23, Tryd.ntmps23
    go_wp2_with fail
    refine C.out.mono ?_
    rintro e w1 ⟨rfl, hw⟩
    have hb := below_bytes w _ _ hw
    have HW := Lib.hid hw
    clear hw
    go_wp2_with fail
    refine (fmt_any u (by omega) w1 (HE.out.below hb)).mono ?_
    rintro e w2 ⟨rfl, hb2⟩
    have hcmp := HC.out
    go_wp2
    go_ret2
    exact ⟨rfl, hb.trans (hb2.mono hb.size)⟩
  · obtain ⟨ev, h1, h2⟩ := hE.syn
    have C := Lib.hid (show Calls Tryd.prog 28 #[.string s, .int .i64 10, .int .i64 8] w (fun e w' => ∃ N, e = .returned (.tuple #[.int .u64 0, .iface 72 (.pointer (some ⟨N, 0, none⟩))]) ∧ RowKit.Below w.heap.size w w') from (Any.strconv_ParseUint_10_at8_syntax Tryd.laysPu14 s (by omega) hp ev w h1 h2).mono fun _ _ ⟨N, he, _, _, hb⟩ => ⟨N, he, hb⟩)
    clear hp hE h1 h2 h
    go_enter Tryd.func23, Tryd.ntmps23
    go_wp2_with fail
    refine C.out.mono ?_
    rintro e w1 ⟨N, rfl, hb⟩
    go_wp2
    go_ret2
    exact ⟨rfl, hb⟩
  · obtain ⟨ev, h1, h2⟩ := hE.rng
    have C := Lib.hid (Tryd.strconv_ParseUint_10_at8_range s (by omega) hp ev w h1 h2)
    clear hp hE h1 h2 h
    go_enter Tryd.func23, Tryd.ntmps23
    go_wp2_with fail
    refine C.out.mono ?_
    rintro e w1 ⟨N, rfl, hN, hcell, hb⟩
    clear hcell
    go_wp2
    go_ret2
    exact ⟨rfl, hb⟩
end Go.Proofs.YtjcmidgeddhfoaaDoor
