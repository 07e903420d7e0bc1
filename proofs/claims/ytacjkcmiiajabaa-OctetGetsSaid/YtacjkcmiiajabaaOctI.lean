/- The walk of octet.Words as a contract for range loops. -/
import Derived.Test.YtacjkcmiiajabaaOctH
import Derived.Test.YtacjkcmiiajabaaOctB
namespace Go.Proofs.Ytacjkcmiiajabaa
open Go.RowKit Go.Shelf
attribute [local go_sem] Oper.semAt_some

/-- The blocks from lo to ahead of hi are as they were. -/
def Mid (lo hi : Nat) (A B : World) : Prop := A.heap.size ≤ B.heap.size ∧ ∀ k, lo ≤ k → k < hi → B.heap[k]? = A.heap[k]?
theorem Mid.refl (lo hi : Nat) (A : World) : Mid lo hi A A := ⟨Nat.le_refl _, fun _ _ _ => rfl⟩
theorem Mid.trans {lo hi : Nat} {A B C : World} (h : Mid lo hi A B) (k : Mid lo hi B C) : Mid lo hi A C :=
  ⟨Nat.le_trans h.1 k.1, fun i h1 h2 => (k.2 i h1 h2).trans (h.2 i h1 h2)⟩
theorem Mid.below {lo hi : Nat} {A B : World} (h : Below hi A B) : Mid lo hi A B := ⟨h.size, fun k _ h2 => h.block k h2⟩

def upto {α : Type} (f : Nat → α) (k : Nat) : List α := (List.range k).map f
theorem upto_succ {α : Type} (f : Nat → α) (k : Nat) : upto f (k + 1) = upto f k ++ [f k] := by simp [upto, List.range_succ]
theorem upto_length {α : Type} (f : Nat → α) (k : Nat) : (upto f k).length = k := by simp [upto]
/-- The word of so many bytes behind the front, with its place. -/
def wd (E : List Nat) (k : Nat) : Nat × Nat := (2 * k, be ((E.drop (2 * k)).take 2))

set_option maxRecDepth 100000 in
set_option maxHeartbeats 1000000 in
theorem it_in (n : Nat) (hn : 1 ≤ n) (l Bs g lo hi L m : Nat) (E : List Nat) (hL : L = E.length) (hE : L = 2 * m) (hb : ∀ c ∈ E, c < 256) (hreach : L ≤ 140737488355328) (h1 : lo ≤ Bs) (h2 : Bs < hi) (h3 : lo ≤ g) (h4 : g < hi)
    (J Jx : List (Nat × Nat) → World → Prop)
    (hY : ∀ pre x W, J pre W → pre.length < m → YieldAt Fence.wide (n - 1) Try.prog l #[.int .i64 (x.1 : Int), .int .u16 (x.2 : Int)] W fun e W' =>
      (e = .returned (.bool true) ∧ J (pre ++ [x]) W' ∧ Mid lo hi W W') ∨ (e = .returned (.bool false) ∧ Jx (pre ++ [x]) W'))
    (W : World) (hBs : Boxed W Bs 22 (.slice (some ⟨g, 0, none⟩) L L)) (hg : W.heap[g]? = some (.cells (nus .u8 E).toArray 5 (0, 0))) (h0 : J [] W) :
    CallsIn Fence.wide n Try.prog 36 #[.func (.yield l) #[] #[], .pointer (some ⟨Bs, 0, none⟩)] W fun e W' => (∃ v, e = .returned v) ∧
      ((∃ ys, ys = upto (wd E) m ∧ J ys W') ∨ (∃ pre, (∃ k, k ≤ m ∧ pre = upto (wd E) k) ∧ Jx pre W')) := by
  have HE := Lib.hid hE
  have HL := Lib.hid hL
  have HY := Lib.hid hY
  have HB := Lib.hid hb
  have HG := Lib.hid hg
  have HBS := Lib.hid hBs
  clear hE hL hY hb hg hBs
  refine callsIn_of_wp Try.func36 rfl trivial ?_ rfl
  simp only [Try.ntmps36, List.size_toArray, List.length_cons, List.length_nil, Nat.reduceAdd, Nat.reduceSub, Array.replicate_succ, Array.replicate_zero, List.push_toArray, List.append_toArray, List.nil_append, List.cons_append]
  gi_wp2
  gi_loopw [3] (fun i wr => ∃ k p : Nat, k ≤ m ∧ p = 2 * k ∧ i = .int .i64 (p : Int) ∧ J (upto (wd E) k) wr ∧ Mid lo hi W wr)
    (fun i _ => L - (intOf i).toNat)
  case atStart => exact ⟨0, 0, Nat.zero_le _, rfl, rfl, h0, Mid.refl _ _ _⟩
  case round =>
    obtain ⟨k, p, hk, hp, rfl, hJs, hnx⟩ := hrel
    have hlen := HE.out
    have bx : Boxed wr Bs 22 (.slice (some ⟨g, 0, none⟩) L L) := (hnx.2 Bs h1 h2).trans HBS.out
    have hgr := (hnx.2 g h3 h4).trans HG.out
    have hrd : Rd wr (.slice (some ⟨g, 0, none⟩) L L) (nus .u8 E) := Rd.own (own_of_heap (base := 0) hgr (Nat.zero_le _) (by rw [nus_length, HL.out]) (by unfold maxLen; omega))
    have HR := Lib.hid hrd
    have hbc := bx.cell
    by_cases hlt : k < m
    · obtain ⟨fn, tmps, assign, body, hy, hR⟩ := HY.out _ (wd E k) wr hJs (by rw [upto_length]; exact hlt)
      have hxe : (wd E k).1 = p := by rw [hp]; rfl
      have hxv : (wd E k).2 = be ((E.drop p).take 2) := by rw [hp]; rfl
      rw [hxe, hxv] at hy
      have hpl : p + 2 ≤ L := by omega
      have hpe : p + 2 ≤ E.length := by rw [← HL.out]; exact hpl
      have hbe := be_take_lt E p 2 HB.out hpe
      have HPE := Lib.hid hpe
      have HP := Lib.hid hp
      have HXE := Lib.hid hxe
      clear hlen bx hgr hrd hp hpe hxe hxv
      gi_wp2_with fail
      refine ⟨trivial, ?_⟩
      refine (callsIn_wide.2 (get16_yes _ p E wr HR.out HB.out HPE.out)).mono ?_
      rintro e w' ⟨rfl, rfl⟩
      gi_wp2
      refine hR.mono ?_
      rintro e W3 (⟨rfl, hJ3, hk3⟩ | ⟨rfl, hJx3⟩)
      · gi_wp2
        go_roundw
        case rel => exact ⟨k + 1, p + 2, by omega, by have := HP.out; omega, by go_num, by rw [upto_succ]; exact hJ3, hnx.trans hk3⟩
        case measure => have := HP.out; simp [intOf]; omega
      · gi_wp2
        refine bodyPost_ret (results_none rfl _ _ _) rfl ?_
        exact ⟨⟨_, rfl⟩, .inr ⟨_, ⟨k + 1, by omega, (upto_succ _ _).symm⟩, hJx3⟩⟩
    · obtain rfl : k = m := by omega
      have hpl : L ≤ p := by omega
      clear hlen bx hgr hrd hp
      gi_wp2
      go_end0
      exact ⟨⟨_, rfl⟩, .inl ⟨_, rfl, hJs⟩⟩

theorem it_stops (n : Nat) (hn : 1 ≤ n) (Bs g lo hi m : Nat) (E : List Nat) (hE : E.length = 2 * m) (hb : ∀ c ∈ E, c < 256) (hreach : E.length ≤ 140737488355328) (h1 : lo ≤ Bs) (h2 : Bs < hi) (h3 : lo ≤ g) (h4 : g < hi) (w : World) (hw : hi ≤ w.heap.size)
    (hBs : Boxed w Bs 22 (.slice (some ⟨g, 0, none⟩) E.length E.length)) (hg : w.heap[g]? = some (.cells (nus .u8 E).toArray 5 (0, 0))) :
    SeqStopsK Fence.wide n Try.prog 36 #[.pointer (some ⟨Bs, 0, none⟩)] (fun x : Nat × Nat => #[Value.int .i64 (x.1 : Int), Value.int .u16 (x.2 : Int)]) (Mid lo hi) (fun ys => ys = upto (wd E) m) (fun pre => ∃ k, k ≤ m ∧ pre = upto (wd E) k) m w := fun l J Jx W hW _ _ hY h0 =>
  it_in n hn l Bs g lo hi E.length m E rfl hE hb hreach h1 h2 h3 h4 J Jx hY W ((hW.block Bs (by omega)).trans hBs) ((hW.block g (by omega)).trans hg) h0

theorem mid_t {lo hi : Nat} {A B C : World} (h : Mid lo hi A B) (k : Mid lo hi B C) : Mid lo hi A C := h.trans k
theorem mid_b {lo hi : Nat} {w : World} (hn : hi ≤ w.heap.size) (W : World) (l : Nat) (o o' : Obj) (hl : w.heap.size ≤ l) (h : W.heap[l]? = some o) (hc : o.isCells = false) (hw : o.isWalk = false) : Mid lo hi W (W.putObj l o') :=
  Mid.below (belowK_b hn W l o o' hl h hc hw)
end Go.Proofs.Ytacjkcmiiajabaa
