/- Texts that the walks of this seat lean on, put together. -/
import Derived.LoopTactic
import Derived.Handy
import Derived.Test.YtcgaibkpdihncaaDoorTk
import Derived.Test.YtcgaibkpdihncaaDoorM14
import Derived.Test.YtcgaibkpdihncaaDoorM26
import Derived.Test.YtcgaibkpdihncaaDoorM39
import Derived.Test.YtcgaibkpdihncaaDoorM42
namespace Go.Proofs.YtcgaibkpdihncaaDoor
open Go.RowKit Go.Lib
structure FS (c : Cf) (gf gF gW N L M : Nat) (W : World) : Prop where
  F : Blk W gf 60 (famC c)
  B : Blk W gF 66 (flt gf N gW L)
  Z : Blk W gW 70 (nus .u64 (wrds M L)).toArray
  E : Env W
  U : Under M N
  n0 : 0 < N
  n1 : N ≤ 65536
  l1 : N ≤ 64 * L
  l2 : L ≤ 1024
  d1 : gW ≠ gF
  d2 : gW ≠ gf
  d3 : 0 < gW
theorem FS.below {c : Cf} {gf gF gW N L M : Nat} {W W' : World} (h : FS c gf gF gW N L M W) (hb : Below W.heap.size W W') : FS c gf gF gW N L M W' :=
  ⟨h.F.below hb h.F.lt, h.B.below hb h.B.lt, h.Z.below hb h.Z.lt, h.E.below hb h.E.lt, h.U, h.n0, h.n1, h.l1, h.l2, h.d1, h.d2, h.d3⟩
theorem FS.lts {c : Cf} {gf gF gW N L M : Nat} {W : World} (h : FS c gf gF gW N L M W) : gf < W.heap.size ∧ gF < W.heap.size ∧ gW < W.heap.size := ⟨h.F.lt, h.B.lt, h.Z.lt⟩
theorem FS.lt {c : Cf} {gf gF gW N L M : Nat} {W : World} (h : FS c gf gF gW N L M W) : gW < W.heap.size := h.Z.lt
theorem FS.grown {c : Cf} {gf gF gW N L M g : Nat} {W W' : World} (h : FS c gf gF gW N L M W) (hb : W.grownBy W' (some g)) (h1 : g ≠ gf) (h2 : g ≠ gF) (h3 : g ≠ gW) (h4 : 0 < g) : FS c gf gF gW N L M W' :=
  ⟨(hb.block gf h.F.lt (fun e => h1 (by cases e; rfl))).trans h.F, (hb.block gF h.B.lt (fun e => h2 (by cases e; rfl))).trans h.B, (hb.block gW h.Z.lt (fun e => h3 (by cases e; rfl))).trans h.Z, h.E.kept (hb.block 0 h.E.lt (fun e => by cases e; omega)), h.U, h.n0, h.n1, h.l1, h.l2, h.d1, h.d2, h.d3⟩
theorem FS.own {c : Cf} {gf gF gW N L M M' : Nat} {W W' : World} (h : FS c gf gF gW N L M W) (hb : W.grownBy W' (some gW)) (hz : Blk W' gW 70 (nus .u64 (wrds M' L)).toArray) (hu : Under M' N) : FS c gf gF gW N L M' W' :=
  ⟨(hb.block gf h.F.lt (fun e => h.d2 (by cases e; rfl))).trans h.F, (hb.block gF h.B.lt (fun e => h.d1 (by cases e; rfl))).trans h.B, hz, h.E.kept (hb.block 0 h.E.lt (fun e => by cases e; have := h.d3; omega)), hu, h.n0, h.n1, h.l1, h.l2, h.d1, h.d2, h.d3⟩
theorem fs_has (c : Cf) (hc : c.Fit) (hok : okC c = true) (k : Fl) (hk : k.Fit) (hv : vK k = true) (gf gF gW N L M : Nat) (w : World) (h : FS c gf gF gW N L M w) :
    Calls Tryd.prog 15 #[.pointer (some ⟨gF, 0, none⟩), .agg k.cs] w fun e w' => e = .returned (.bool (hasB N (btN c k) M)) ∧ Below w.heap.size w w' :=
  has_yes c hc hok k hk gf gF gW N L M h.n0 h.n1 h.l1 hv w h.F h.B h.Z
theorem fs_ins (c : Cf) (hc : c.Fit) (hok : okC c = true) (k : Fl) (hk : k.Fit) (hv : vK k = true) (gf gF gW N L M : Nat) (w : World) (h : FS c gf gF gW N L M w) :
    Calls Tryd.prog 13 #[.pointer (some ⟨gF, 0, none⟩), .agg k.cs] w fun e w' => e = .returned (.bool (!hasB N (btN c k) M)) ∧ FS c gf gF gW N L (insB N (btN c k) M) w' ∧ w.grownBy w' (some gW) := by
  refine (ins_yes c hc hok k hk gf gF gW N L M h.n0 h.n1 h.l1 hv h.d1 w h.F h.B h.Z).mono ?_
  rintro e w' ⟨rfl, hz, hg⟩
  exact ⟨rfl, h.own hg hz (under_insB _ h.U h.n0), hg⟩
theorem fs_count (c : Cf) (gf gF gW N L M : Nat) (w : World) (h : FS c gf gF gW N L M w) :
    Calls Tryd.prog 19 #[.pointer (some ⟨gF, 0, none⟩)] w fun e w' => e = .returned (.int .i64 ((bitsL M N).length : Int)) ∧ Below w.heap.size w w' :=
  count_any gf gF gW N L M h.l1 h.l2 h.U w h.B h.Z
theorem fs_ones (c : Cf) (gf gF gW N L M : Nat) (most : Int) (w : World) (h : FS c gf gF gW N L M w) :
    Calls Tryd.prog 18 #[.pointer (some ⟨gF, 0, none⟩), .int .i64 most] w fun e w' => ∃ x, e = .returned x ∧ w'.ownsRow w.heap.size 3 1 x (cutN (bitsL M N) most).length (nus .i64 (cutN (bitsL M N) most)) ∧ Below w.heap.size w w' :=
  lones_any gf gF gW N L M h.l1 h.l2 h.U most w h.E h.B h.Z
theorem fs_clear (c : Cf) (gf gF gW N L M : Nat) (w : World) (h : FS c gf gF gW N L M w) :
    Calls Tryd.prog 11 #[.pointer (some ⟨gF, 0, none⟩)] w fun e w' => (∃ v, e = .returned v) ∧ FS c gf gF gW N L 0 w' ∧ w.grownBy w' (some gW) := by
  refine (clear_any gf gF gW N L M h.n0 h.l1 w h.B h.Z).mono ?_
  rintro e w' ⟨hv, hz, hg⟩
  exact ⟨hv, h.own hg hz (under_zero N), hg⟩
theorem fs_new (c : Cf) (gf N : Nat) (h1 : 1 ≤ N) (h2 : N ≤ 65536) (w : World) (hF : Blk w gf 60 (famC c)) (hE : Env w) :
    Calls Tryd.prog 10 #[.pointer (some ⟨gf, 0, none⟩), .int .i64 (N : Int)] w fun e w' => (∃ gF gW L, e = .returned (.tuple #[.pointer (some ⟨gF, 0, none⟩), .int .i64 0]) ∧ FS c gf gF gW N L 0 w' ∧ w.heap.size ≤ gW ∧ w.heap.size ≤ gF) ∧ Below w.heap.size w w' := by
  refine (bnew_yes N gf h1 h2 w).mono ?_
  rintro e w' ⟨⟨gF, gW, L, rfl, q1, q2, q3, q4, hB, hZ⟩, hy⟩
  have := hF.lt
  have := hE.lt
  exact ⟨⟨gF, gW, L, rfl, ⟨hF.below hy hF.lt, hB, hZ, hE.below hy hE.lt, under_zero N, by omega, h2, q3, q4, by omega, by omega, by omega⟩, q1, by omega⟩, hy⟩
structure RS (c : Cf) (gR N M base : Nat) (W : World) : Prop where
  R : ∃ v, Blk W gR 40 (rft c.cs N v) ∧ W.ownsRow base 3 1 v (bitsL M N).length (nus .i64 (bitsL M N))
  n0 : 0 < N
  n1 : N ≤ 65536
  d1 : gR < base
  d2 : base ≤ W.heap.size
theorem RS.below {c : Cf} {gR N M base : Nat} {W W' : World} (h : RS c gR N M base W) (hb : Below W.heap.size W W') : RS c gR N M base W' := by
  obtain ⟨v, h1, h2⟩ := h.R
  exact ⟨⟨v, h1.below hb h1.lt, row_under h2 hb⟩, h.n0, h.n1, h.d1, Nat.le_trans h.d2 hb.size⟩
theorem RS.grown {c : Cf} {gR N M base g : Nat} {W W' : World} (h : RS c gR N M base W) (hb : W.grownBy W' (some g)) (h1 : g ≠ gR) (h2 : g < base) : RS c gR N M base W' := by
  obtain ⟨v, q1, q2⟩ := h.R
  exact ⟨⟨v, (hb.block gR q1.lt (fun e => h1 (by cases e; rfl))).trans q1, own_apart q2 hb h2⟩, h.n0, h.n1, h.d1, Nat.le_trans h.d2 hb.size⟩
theorem rs_ins (c : Cf) (hc : c.Fit) (hok : okC c = true) (k : Fl) (hk : k.Fit) (hv : vK k = true) (gR N M base : Nat) (w : World) (h : RS c gR N M base w) :
    Calls Tryd.prog 14 #[.pointer (some ⟨gR, 0, none⟩), .agg k.cs] w fun e w' => e = .returned (.bool (!hasB N (btN c k) M)) ∧ RS c gR N (insB N (btN c k) M) base w' ∧ w.grownBy w' (some gR) := by
  obtain ⟨v, q1, q2⟩ := h.R
  refine (rIns_yes c hc hok k hk gR N M base v h.n0 h.n1 h.d1 hv w h.d2 q1 q2).mono ?_
  rintro e w' ⟨rfl, hr, hg⟩
  exact ⟨rfl, ⟨hr, h.n0, h.n1, h.d1, Nat.le_trans h.d2 hg.size⟩, hg⟩
theorem rs_has (c : Cf) (hc : c.Fit) (hok : okC c = true) (k : Fl) (hk : k.Fit) (hv : vK k = true) (gR N M base : Nat) (w : World) (h : RS c gR N M base w) :
    Calls Tryd.prog 16 #[.pointer (some ⟨gR, 0, none⟩), .agg k.cs] w fun e w' => e = .returned (.bool (hasB N (btN c k) M)) ∧ Below w.heap.size w w' := by
  obtain ⟨v, q1, q2⟩ := h.R
  exact rHas_yes c hc hok k hk gR N M v h.n0 h.n1 hv w q1 (Rd.own q2)
theorem cut_alln (l : List Nat) : cutN l (-1) = l := by
  unfold cutN; rw [if_neg (by omega)]
end Go.Proofs.YtcgaibkpdihncaaDoor
