/- Texts that the walks of this seat lean on, put together. -/
import Derived.Laws.CopyOwn
import Derived.Handy
import Derived.BigQuiet
import Derived.Deep.QuietTactic
import Derived.RangeFuncNested
import Derived.RangeFuncBound
import Derived.RangeFuncCalls
import Derived.RangeFuncLeaves
import Derived.RangeFuncBox
import Derived.Shelf.Abstract
import Derived.Shelf.RegionOpen
import Derived.OwnWalkIn
import Derived.TacticsInMore
import Derived.LoopNIn
import Derived.LoopIn
import Derived.Maps.AppendAt
import Derived.Test.YtnpibdjfafpegaaTk
import Derived.Test.YtnpibdjfafpegaaM03
import Derived.Test.YtnpibdjfafpegaaM05
namespace Go.Proofs.Ytnpibdjfafpegaa
open Go.RowKit Go.Shelf
attribute [local go_sem] Oper.semAt_some
def even (zs : List Nat) : List Nat := zs ++ List.replicate (zs.length % 2) 0
theorem even_length (zs : List Nat) : (even zs).length = zs.length + zs.length % 2 := by simp [even]
set_option maxHeartbeats 400000 in
theorem words_any (va : Value) (zs : List Nat) (w : World) (hr : Rd w va (nus .u8 zs)) (hz : zs.length ≤ 140737488351232) :
    Calls Try.prog 74 #[va] w fun e w' => ∃ Be g, e = .returned (.func (.func 76) #[] #[.pointer (some ⟨Be, 0, none⟩)]) ∧ w.heap.size ≤ Be ∧ w.heap.size ≤ g ∧ Boxed w' Be 22 (.slice (some ⟨g, 0, none⟩) (even zs).length (even zs).length) ∧ w'.heap[g]? = some (.cells (nus .u8 (even zs)).toArray 5 (0, 0)) ∧ Below w.heap.size w w' := by
  obtain ⟨i0, hi, hz0, hz1, hz2⟩ := info_parts Try.info5
  obtain ⟨a, cap, rfl, hlc, hl, hx⟩ := hr
  rw [nus_length] at hlc hx ⊢
  obtain ⟨len, hlen⟩ : ∃ len, len = zs.length := ⟨_, rfl⟩
  rw [← hlen] at hlc hx hz ⊢
  have HL := Lib.hid hlen
  have HX := Lib.hid hx
  clear hlen hx
  unfold maxLen at hl
  go_enter Try.func74, Try.ntmps74
  have hbase : w.heap.size ≤ w.heap.size := Nat.le_refl _
  go_wp2_with (at_make; refine wpList_make_full _ rfl _ _ 22 rfl w.heap.size 5 i0 (.int .u8 0) 1 Try.underlying22 hi hz0 hz1 .i64 .i64 _ _ (len + len % 2) rfl rfl ?c1 ?c2 ?c3 ?c4 hbase ?_)
  case c1 => omega
  case c2 => omega
  case c3 => rw [hz2]; omega
  case c4 => unfold maxLen; omega
  intro w1 hown hgr
  have hb1 : Below w.heap.size w w1 := (Below.refl _ _).grown hgr (Nat.le_refl _) (fun k hk => by cases hk)
  obtain ⟨hh, _⟩ := own_heap hown
  have hsz1 : w.heap.size < w1.heap.size := (Array.getElem?_eq_some_iff.1 hh).1
  obtain ⟨sv, hsv⟩ : ∃ sv, sv = Value.slice (some ⟨w.heap.size, 0, none⟩) (len + len % 2) (len + len % 2) := ⟨_, rfl⟩
  have hh2 := (Below.heap_alloc w1 (.cells #[sv] 22) w.heap.size hsz1).trans hh
  have hb2 := hb1.alloc (Nat.le_of_lt hsz1) (.cells #[sv] 22)
  have hbx := Boxed.new w1 22 sv
  have hrd : Rd (w1.alloc (.cells #[sv] 22)) (.slice a len cap) (nus .u8 zs) := (show Rd w (.slice a len cap) (nus .u8 zs) from ⟨a, cap, by rw [nus_length, HL.out], by rw [nus_length, ← HL.out]; exact hlc, hl, by rw [nus_length, ← HL.out]; exact HX.out⟩).below hb2
  rw [hsv] at hh2 hb2 hbx hrd
  have hsrc := Lib.hid hrd.src
  have HH := Lib.hid hh2
  have HB2 := Lib.hid hb2
  have HBX := Lib.hid hbx
  clear hh hown hgr hb1 hh2 hb2 hbx hrd hsv
  go_wp2_with (with_reducible refine copy_grown rfl (.tmp 11) (.tmp 12) 22 22 rfl 5 Try.underlying22 Try.size5 _ _ _ _ _ _ rfl rfl w.heap.size 0 _ 5 HH.out (nus .u8 zs) ?d1 ?d2 ?d3 (oneCell_nus _ _) ?_)
  case d1 => rw [nus_length, ← HL.out]; exact (Nat.min_eq_left (by omega)).symm
  case d2 => exact hsrc.out
  case d3 => rw [nus_length, ← HL.out, size_made]; omega
  intro w2 h2 hg2
  have hh2 := h2.out
  rw [splice_made zs (len % 2) _ HL.out] at hh2
  have hbx2 := HBX.out.kept hg2 (by simp; omega)
  have hb3 := HB2.out.grown hg2 HB2.out.size (fun k hk => by cases hk; exact Nat.le_refl _)
  have HE : Hid (zs ++ List.replicate (len % 2) 0 = even zs) := by unfold even; rw [← HL.out]; exact rfl
  have HEL : Hid ((even zs).length = len + len % 2) := by unfold even; rw [List.length_append, List.length_replicate, ← HL.out]; exact rfl
  rw [HE.out] at hh2
  rw [← HEL.out] at hbx2
  have HO := Lib.hid hh2
  have HB3 := Lib.hid hb3
  have HX2 := Lib.hid hbx2
  clear hh2 h2 hsrc HH HX HB2 HBX hg2 hbx2 hb3
  go_wp2
  go_ret
  exact ⟨_, _, rfl, Nat.le_of_lt hsz1, Nat.le_refl _, HX2.out, HO.out, HB3.out⟩
def Mid (lo hi : Nat) (A B : World) : Prop := A.heap.size ≤ B.heap.size ∧ ∀ k, lo ≤ k → k < hi → B.heap[k]? = A.heap[k]?
theorem Mid.refl (lo hi : Nat) (A : World) : Mid lo hi A A := ⟨Nat.le_refl _, fun _ _ _ => rfl⟩
theorem Mid.trans {lo hi : Nat} {A B C : World} (h : Mid lo hi A B) (k : Mid lo hi B C) : Mid lo hi A C :=
  ⟨Nat.le_trans h.1 k.1, fun i h1 h2 => (k.2 i h1 h2).trans (h.2 i h1 h2)⟩
theorem Mid.below {lo hi : Nat} {A B : World} (h : Below hi A B) : Mid lo hi A B := ⟨h.size, fun k _ h2 => h.block k h2⟩
def upto {α : Type} (f : Nat → α) (k : Nat) : List α := (List.range k).map f
theorem upto_succ {α : Type} (f : Nat → α) (k : Nat) : upto f (k + 1) = upto f k ++ [f k] := by simp [upto, List.range_succ]
theorem upto_length {α : Type} (f : Nat → α) (k : Nat) : (upto f k).length = k := by simp [upto]
def wd (E : List Nat) (k : Nat) : Nat × Nat := (2 * k, be ((E.drop (2 * k)).take 2))
set_option maxRecDepth 100000 in
set_option maxHeartbeats 1000000 in
theorem it_in {α : Type} (f : Nat → α) (pr : α → Nat × Nat) (n : Nat) (hn : 1 ≤ n) (l Bs g lo hi L m : Nat) (E : List Nat) (hL : L = E.length) (hE : L = 2 * m) (hb : ∀ c ∈ E, c < 256) (hreach : L ≤ 140737488355328) (h1 : lo ≤ Bs) (h2 : Bs < hi) (h3 : lo ≤ g) (h4 : g < hi)
    (hf : ∀ k, pr (f k) = wd E k) (J Jx : List α → World → Prop)
    (hY : ∀ pre x W, J pre W → pre.length < m → YieldAt Fence.wide (n - 1) Try.prog l #[.int .i64 ((pr x).1 : Int), .int .u16 ((pr x).2 : Int)] W fun e W' =>
      (e = .returned (.bool true) ∧ J (pre ++ [x]) W' ∧ Mid lo hi W W') ∨ (e = .returned (.bool false) ∧ Jx (pre ++ [x]) W'))
    (W : World) (hBs : Boxed W Bs 22 (.slice (some ⟨g, 0, none⟩) L L)) (hg : W.heap[g]? = some (.cells (nus .u8 E).toArray 5 (0, 0))) (h0 : J [] W) :
    CallsIn Fence.wide n Try.prog 76 #[.func (.yield l) #[] #[], .pointer (some ⟨Bs, 0, none⟩)] W fun e W' => (∃ v, e = .returned v) ∧
      ((∃ ys, ys = upto f m ∧ J ys W') ∨ (∃ pre, (∃ k, k ≤ m ∧ pre = upto f k) ∧ Jx pre W')) := by
  have HE := Lib.hid hE
  have HL := Lib.hid hL
  have HY := Lib.hid hY
  have HB := Lib.hid hb
  have HG := Lib.hid hg
  have HBS := Lib.hid hBs
  have HF := Lib.hid hf
  clear hf hE hL hY hb hg hBs
  refine callsIn_of_wp Try.func76 rfl trivial ?_ rfl
  simp only [Try.ntmps76, List.size_toArray, List.length_cons, List.length_nil, Nat.reduceAdd, Nat.reduceSub, Array.replicate_succ, Array.replicate_zero, List.push_toArray, List.append_toArray, List.nil_append, List.cons_append]
  gi_wp2
  gi_loopw [3] (fun i wr => ∃ k p : Nat, k ≤ m ∧ p = 2 * k ∧ i = .int .i64 (p : Int) ∧ J (upto f k) wr ∧ Mid lo hi W wr)
    (fun i _ => L - (intOf i).toNat)
  case atStart => exact ⟨0, 0, Nat.zero_le _, rfl, rfl, h0, Mid.refl _ _ _⟩
  case round =>
    obtain ⟨k, p, hk, hp, rfl, hJs, hnx⟩ := hrel
    have hlen := HE.out
    have bx : Boxed wr Bs 22 (.slice (some ⟨g, 0, none⟩) L L) := (hnx.2 Bs h1 h2).trans HBS.out
    have hgr := (hnx.2 g h3 h4).trans HG.out
    have hrd : Rd wr (.slice (some ⟨g, 0, none⟩) L L) (nus .u8 E) := Rd.own (own_of_heap (base := 0) hgr (Nat.zero_le _) (by rw [nus_length, HL.out]) (by unfold maxLen; omega))
    have HR := Lib.hid hrd
    have hbc := bx.cell
    by_cases hlt : k < m
    · obtain ⟨fn, tmps, assign, body, hy, hR⟩ := HY.out _ (f k) wr hJs (by rw [upto_length]; exact hlt)
      have hxe : (pr (f k)).1 = p := by rw [HF.out, hp]; rfl
      have hxv : (pr (f k)).2 = be ((E.drop p).take 2) := by rw [HF.out, hp]; rfl
      rw [hxe, hxv] at hy
      have hpl : p + 2 ≤ L := by omega
      have hpe : p + 2 ≤ E.length := by rw [← HL.out]; exact hpl
      have hbe := be_take_lt E p 2 HB.out hpe
      have HPE := Lib.hid hpe
      have HP := Lib.hid hp
      have HXE := Lib.hid hxe
      clear hlen bx hgr hrd hp hpe hxe hxv
      gi_wp2_with fail
      refine ⟨trivial, ?_⟩
      refine (callsIn_wide.2 (get16_yes _ p E wr HR.out HB.out HPE.out)).mono ?_
      rintro e w' ⟨rfl, rfl⟩
      gi_wp2
      refine hR.mono ?_
      rintro e W3 (⟨rfl, hJ3, hk3⟩ | ⟨rfl, hJx3⟩)
      · gi_wp2
        go_roundw
        case rel => exact ⟨k + 1, p + 2, by omega, by have := HP.out; omega, by go_num, by rw [upto_succ]; exact hJ3, hnx.trans hk3⟩
        case measure => have := HP.out; simp [intOf]; omega
      · gi_wp2
        refine bodyPost_ret (results_none rfl _ _ _) rfl ?_
        exact ⟨⟨_, rfl⟩, .inr ⟨_, ⟨k + 1, by omega, (upto_succ _ _).symm⟩, hJx3⟩⟩
    · obtain rfl : k = m := by omega
      have hpl : L ≤ p := by omega
      clear hlen bx hgr hrd hp
      gi_wp2
      go_end0
      exact ⟨⟨_, rfl⟩, .inl ⟨_, rfl, hJs⟩⟩
theorem it_stops (n : Nat) (hn : 1 ≤ n) (Bs g lo hi m : Nat) (E : List Nat) (hE : E.length = 2 * m) (hb : ∀ c ∈ E, c < 256) (hreach : E.length ≤ 140737488355328) (h1 : lo ≤ Bs) (h2 : Bs < hi) (h3 : lo ≤ g) (h4 : g < hi) (w : World) (hw : hi ≤ w.heap.size)
    (hBs : Boxed w Bs 22 (.slice (some ⟨g, 0, none⟩) E.length E.length)) (hg : w.heap[g]? = some (.cells (nus .u8 E).toArray 5 (0, 0))) :
    SeqStopsK Fence.wide n Try.prog 76 #[.pointer (some ⟨Bs, 0, none⟩)] (fun x : Nat × Nat => #[Value.int .i64 (x.1 : Int), Value.int .u16 (x.2 : Int)]) (Mid lo hi) (fun ys => ys = upto (wd E) m) (fun pre => ∃ k, k ≤ m ∧ pre = upto (wd E) k) m w := fun l J Jx W hW _ _ hY h0 =>
  it_in (wd E) id n hn l Bs g lo hi E.length m E rfl hE hb hreach h1 h2 h3 h4 (fun _ => rfl) J Jx hY W ((hW.block Bs (by omega)).trans hBs) ((hW.block g (by omega)).trans hg) h0
theorem mid_t {lo hi : Nat} {A B C : World} (h : Mid lo hi A B) (k : Mid lo hi B C) : Mid lo hi A C := h.trans k
theorem mid_b {lo hi : Nat} {w : World} (hn : hi ≤ w.heap.size) (W : World) (l : Nat) (o o' : Obj) (hl : w.heap.size ≤ l) (h : W.heap[l]? = some o) (hc : o.isCells = false) (hw : o.isWalk = false) : Mid lo hi W (W.putObj l o') :=
  Mid.below (belowK_b hn W l o o' hl h hc hw)
end Go.Proofs.Ytnpibdjfafpegaa
