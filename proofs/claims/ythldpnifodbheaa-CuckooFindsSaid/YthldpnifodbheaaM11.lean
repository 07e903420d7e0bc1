/- Texts that the walks of this seat lean on, put together. -/
import Derived.Laws.BytesArg
import Derived.WalkKit
import Derived.LoopTactic
import Derived.Handy
import Derived.Lib.Hide
import Derived.Laws.CopyOwn
import Derived.BigQuiet
import Derived.Deep.QuietTactic
import Derived.KernelRfl
import Derived.WalkSpells
import Derived.WalkLawsBesides
import Derived.Deep.RegionHeld
import Derived.Below
import Derived.Tactics
import Derived.Test.YthldpnifodbheaaTk
import Derived.Test.YthldpnifodbheaaTl
import Derived.Test.YthldpnifodbheaaM01
import Derived.Test.YthldpnifodbheaaM02
import Derived.Test.YthldpnifodbheaaM03
import Derived.Test.YthldpnifodbheaaM04
import Derived.Test.YthldpnifodbheaaM05
import Derived.Test.YthldpnifodbheaaM07
import Derived.Test.YthldpnifodbheaaM09
import Derived.Test.YthldpnifodbheaaProg
namespace Go.Proofs.Ythldpnifodbheaa
def itF {α : Type} (c : Nat → Option α) (a n : Nat) : List (Nat × α) := (List.range' a n).filterMap fun k => (c k).map fun v => (k, v)
def putC {α : Type} (c : Nat → Option α) (k : Nat) (v : Option α) : Nat → Option α := fun j => if j = k then v else c j
theorem itF_zero {α : Type} (c : Nat → Option α) (a : Nat) : itF c a 0 = [] := rfl
theorem itF_succ {α : Type} (c : Nat → Option α) (a n : Nat) : itF c a (n + 1) = ((c a).map fun v => (a, v)).toList ++ itF c (a + 1) n := by
  unfold itF
  rw [List.range'_succ]
  cases h : c a with
  | none => simp [h]
  | some v => simp [h]
theorem itF_add {α : Type} (c : Nat → Option α) (a n m : Nat) : itF c a (n + m) = itF c a n ++ itF c (a + n) m := by
  induction n generalizing a with
  | zero => simp [itF_zero]
  | succ n ih =>
    rw [show n + 1 + m = (n + m) + 1 by omega, itF_succ, itF_succ, ih, List.append_assoc, show a + 1 + n = a + (n + 1) by omega]
theorem itF_last {α : Type} (c : Nat → Option α) (a n : Nat) : itF c a (n + 1) = itF c a n ++ ((c (a + n)).map fun v => (a + n, v)).toList := by
  rw [itF_add, itF_succ, itF_zero, List.append_nil]
theorem itF_congr {α : Type} (c d : Nat → Option α) (a n : Nat) (h : ∀ j, a ≤ j → j < a + n → c j = d j) : itF c a n = itF d a n := by
  induction n generalizing a with
  | zero => rfl
  | succ n ih =>
    rw [itF_succ, itF_succ, h a (Nat.le_refl _) (by omega), ih (a + 1) fun j h1 h2 => h j (by omega) (by omega)]
theorem itF_mem {α : Type} (c : Nat → Option α) (a n : Nat) (x : Nat × α) : x ∈ itF c a n ↔ a ≤ x.1 ∧ x.1 < a + n ∧ c x.1 = some x.2 := by
  obtain ⟨k, v⟩ := x
  unfold itF
  simp only [List.mem_filterMap, List.mem_range'_1, Option.map_eq_some_iff, Prod.mk.injEq]
  constructor
  · rintro ⟨j, hj, w, hw, rfl, rfl⟩; exact ⟨hj.1, hj.2, hw⟩
  · rintro ⟨h1, h2, h3⟩; exact ⟨k, ⟨h1, h2⟩, v, h3, rfl, rfl⟩
theorem itF_at {α : Type} (c : Nat → Option α) (n k : Nat) (h : k < n) : itF c 0 n = itF c 0 k ++ (((c k).map fun v => (k, v)).toList ++ itF c (k + 1) (n - k - 1)) := by
  have e : n = k + ((n - k - 1) + 1) := by omega
  conv => lhs; rw [e]
  rw [itF_add, itF_succ, Nat.zero_add]
theorem itF_put {α : Type} (c : Nat → Option α) (n k : Nat) (v : Option α) (h : k < n) : itF (putC c k v) 0 n = itF c 0 k ++ ((v.map fun v => (k, v)).toList ++ itF c (k + 1) (n - k - 1)) := by
  rw [itF_at _ _ _ h]
  congr 1
  · exact itF_congr _ _ _ _ fun j _ hj => by unfold putC; rw [if_neg (by omega)]
  · congr 1
    · unfold putC; rw [if_pos rfl]
    · exact itF_congr _ _ _ _ fun j hj _ => by unfold putC; rw [if_neg (by omega)]
theorem itF_len {α : Type} (c : Nat → Option α) (a n : Nat) : (itF c a n).length ≤ n := by
  unfold itF; exact Nat.le_trans (List.length_filterMap_le _ _) (by rw [List.length_range']; exact Nat.le_refl _)
theorem putC_same {α : Type} (c : Nat → Option α) (k : Nat) : putC c k (c k) = c := by
  funext j; unfold putC; split
  · next e => rw [e]
  · rfl
theorem putC_at {α : Type} (c : Nat → Option α) (k : Nat) (v : Option α) : putC c k v k = v := if_pos rfl
theorem putC_off {α : Type} (c : Nat → Option α) (k j : Nat) (v : Option α) (h : j ≠ k) : putC c k v j = c j := if_neg h
theorem itF_none {α : Type} (a n : Nat) : itF (fun _ => (none : Option α)) a n = [] := by
  induction n generalizing a with
  | zero => rfl
  | succ n ih => rw [itF_succ, ih]; rfl
theorem itF_one {α : Type} (n k : Nat) (v : α) (h : k < n) : itF (putC (fun _ => none) k (some v)) 0 n = [(k, v)] := by
  rw [itF_put _ n k _ h, itF_none, itF_none]; rfl
theorem plc_lt (z s i : Nat) (hi : i < z) (t : Nat) (hs : s < t) : s * z + i < t * z := by
  have := Nat.mul_le_mul_right z (Nat.succ_le_of_lt hs)
  rw [Nat.succ_mul] at this; omega
theorem plc_div (z s i : Nat) (hi : i < z) : (s * z + i) / z = s := by
  rw [Nat.mul_comm, Nat.mul_add_div (by omega), Nat.div_eq_of_lt hi, Nat.add_zero]
theorem plc_mod (z s i : Nat) (hi : i < z) : (s * z + i) % z = i := by
  rw [Nat.mul_comm, Nat.mul_add_mod, Nat.mod_eq_of_lt hi]
end Go.Proofs.Ythldpnifodbheaa
namespace Go.Proofs.Ythldpnifodbheaa
open Go.RowKit Go.Lib
def rowC {α : Type} (enc : Option α → List Value) (c : Nat → Option α) (a n : Nat) : List Value := (List.range' a n).flatMap fun k => enc (c k)
theorem rowC_succ {α : Type} (enc : Option α → List Value) (c : Nat → Option α) (a n : Nat) : rowC enc c a (n + 1) = enc (c a) ++ rowC enc c (a + 1) n := by
  unfold rowC; rw [List.range'_succ, List.flatMap_cons]
theorem rowC_len {α : Type} (enc : Option α → List Value) (m : Nat) (he : ∀ o, (enc o).length = m) (c : Nat → Option α) (a n : Nat) : (rowC enc c a n).length = n * m := by
  induction n generalizing a with
  | zero => simp [rowC]
  | succ n ih => rw [rowC_succ, List.length_append, he, ih, Nat.succ_mul, Nat.add_comm]
theorem rowC_get {α : Type} (enc : Option α → List Value) (m : Nat) (he : ∀ o, (enc o).length = m) (c : Nat → Option α) (a n i j : Nat) (hi : i < n) (hj : j < m) : (rowC enc c a n)[i * m + j]? = (enc (c (a + i)))[j]? := by
  induction n generalizing a i with
  | zero => omega
  | succ n ih =>
    rw [rowC_succ]
    cases i with
    | zero => rw [Nat.zero_mul, Nat.zero_add, List.getElem?_append_left (by rw [he]; exact hj), Nat.add_zero]
    | succ i =>
      rw [List.getElem?_append_right (by rw [he, Nat.succ_mul]; omega), he, show (i + 1) * m + j - m = i * m + j by rw [Nat.succ_mul]; omega, ih (a + 1) i (by omega), show a + 1 + i = a + (i + 1) by omega]
theorem rowC_congr {α : Type} (enc : Option α → List Value) (c d : Nat → Option α) (a n : Nat) (h : ∀ j, a ≤ j → j < a + n → c j = d j) : rowC enc c a n = rowC enc d a n := by
  induction n generalizing a with
  | zero => rfl
  | succ n ih => rw [rowC_succ, rowC_succ, h a (Nat.le_refl _) (by omega), ih (a + 1) fun j h1 h2 => h j (by omega) (by omega)]
theorem div_of_in (m j i : Nat) (h1 : i * m ≤ j) (h2 : j < i * m + m) : j / m = i ∧ j % m = j - i * m := by
  have hm : 0 < m := by omega
  have e : j = m * i + (j - i * m) := by rw [Nat.mul_comm]; omega
  constructor
  · rw [e, Nat.mul_add_div hm, Nat.div_eq_of_lt (by omega), Nat.add_zero]
  · rw [e, Nat.mul_add_mod, Nat.mod_eq_of_lt (by omega)]; omega
theorem rowC_put {α : Type} (enc : Option α → List Value) (m : Nat) (he : ∀ o, (enc o).length = m) (hm : 0 < m) (c : Nat → Option α) (a n i : Nat) (hi : i < n) (v : Option α) : setL (rowC enc c a n).toArray (i * m) (enc v) = (rowC enc (putC c (a + i) v) a n).toArray := by
  apply Array.ext_getElem?
  intro j
  rw [setL_get]
  have hl := rowC_len enc m he c a n
  have hl2 := rowC_len enc m he (putC c (a + i) v) a n
  have hle : (i + 1) * m ≤ n * m := Nat.mul_le_mul_right _ hi
  rw [Nat.succ_mul] at hle
  simp only [List.size_toArray, List.getElem?_toArray]
  rw [hl, he]
  by_cases hj : j < n * m
  · have hq : j / m < n := Nat.div_lt_of_lt_mul (by rw [Nat.mul_comm]; exact hj)
    have hr : j % m < m := Nat.mod_lt _ hm
    have ej := Nat.div_add_mod' j m
    have g1 := rowC_get enc m he c a n (j / m) (j % m) hq hr
    have g2 := rowC_get enc m he (putC c (a + i) v) a n (j / m) (j % m) hq hr
    rw [ej] at g1 g2
    rw [g1, g2]
    by_cases h : i * m ≤ j ∧ j < i * m + m
    · obtain ⟨q1, q2⟩ := div_of_in m j i h.1 h.2
      rw [if_pos ⟨h.1, h.2, hj⟩, q1, q2, putC_at]
    · rw [if_neg (by omega), putC_off]
      intro e
      have hi2 : j / m = i := by omega
      rw [hi2] at ej
      omega
  · rw [if_neg (by omega), List.getElem?_eq_none (by omega), List.getElem?_eq_none (by omega)]
theorem rowC_far {α : Type} (enc : Option α → List Value) (c : Nat → Option α) (a n k : Nat) (h : k < a ∨ a + n ≤ k) (v : Option α) : rowC enc (putC c k v) a n = rowC enc c a n :=
  rowC_congr enc _ _ a n fun j h1 h2 => putC_off c k j v (by omega)
def hdr (B sz st : Nat) : List Value := (List.range st).map fun s => Value.slice (some ⟨B + 2 + s, 0, none⟩) sz sz
theorem hdr_get (B sz st s : Nat) (h : s < st) : (hdr B sz st).toArray[s]? = some (Value.slice (some ⟨B + 2 + s, 0, none⟩) sz sz) := by
  unfold hdr; simp [List.getElem?_range h]
def grC (B st n : Nat) : Array Value := #[.slice (some ⟨B, 0, none⟩) st st, .int .i64 (n : Int)]
theorem grC_get (B st n : Nat) : (grC B st n)[0]? = some (.slice (some ⟨B, 0, none⟩) st st) ∧ (grC B st n)[1]? = some (.int .i64 (n : Int)) := ⟨rfl, rfl⟩
theorem grC_set (B st n k : Nat) : (grC B st n).setIfInBounds 1 (.int .i64 (k : Int)) = grC B st k := rfl
structure GS {α : Type} (tG tR tC : TypeId) (enc : Option α → List Value) (B st sz : Nat) (c : Nat → Option α) (W : World) : Prop where
  G : Blk W (B + 1) tG (grC B st (itF c 0 (st * sz)).length)
  R : Blk W B tR (hdr B sz st).toArray
  C : ∀ s, s < st → Blk W (B + 2 + s) tC (rowC enc c (s * sz) sz).toArray
  s1 : 1 ≤ st
  s2 : st ≤ 4
  z1 : 1 ≤ sz
  z2 : sz ≤ 1024
structure Apart (B n : Nat) (w w' : World) : Prop where
  os : w'.os = w.os
  tape : w'.tape = w.tape
  output : w'.output = w.output
  size : w.heap.size ≤ w'.heap.size
  block : ∀ k, k < w.heap.size → k < B ∨ B + n ≤ k → w'.heap[k]? = w.heap[k]?
section
variable {B n : Nat} {w w' w'' : World}
theorem Apart.trans (h : Apart B n w w') (k : Apart B n w' w'') : Apart B n w w'' :=
  ⟨k.os.trans h.os, k.tape.trans h.tape, k.output.trans h.output, Nat.le_trans h.size k.size, fun i hi hb => (k.block i (Nat.lt_of_lt_of_le hi h.size) hb).trans (h.block i hi hb)⟩
theorem Apart.of_below (h : Below w.heap.size w w') : Apart B n w w' := ⟨h.os, h.tape, h.output, h.size, fun k hk _ => h.block k hk⟩
theorem Apart.of_grown {g : Nat} (h : w.grownBy w' (some g)) (h1 : B ≤ g) (h2 : g < B + n) : Apart B n w w' :=
  ⟨h.os, h.tape, h.output, h.size, fun k hk hb => h.block k hk (fun e => by cases e; omega)⟩
theorem Apart.below (h : Apart B n w w') {b : Nat} (hb : b ≤ B) (hs : b ≤ w.heap.size) : Below b w w' :=
  ⟨h.os, h.tape, h.output, h.size, fun k hk => h.block k (by omega) (.inl (by omega))⟩
theorem Apart.blk (h : Apart B n w w') {g : Nat} {t : TypeId} {cs : Array Value} (hb : Blk w g t cs) (hg : g < B ∨ B + n ≤ g) : Blk w' g t cs := (h.block g hb.lt hg).trans hb
end
section
variable {α : Type} {tG tR tC : TypeId} {enc : Option α → List Value} {B st sz : Nat} {c : Nat → Option α} {W W' : World}
theorem GS.lt (h : GS tG tR tC enc B st sz c W) : B + 2 + st ≤ W.heap.size := by
  have := (h.C (st - 1) (by have := h.s1; omega)).lt
  have := h.s1
  omega
theorem GS.belowB {b : Nat} (h : GS tG tR tC enc B st sz c W) (hb : Below b W W') (hl : B + 2 + st ≤ b) : GS tG tR tC enc B st sz c W' :=
  ⟨h.G.below hb (by have := h.s1; omega), h.R.below hb (by omega), fun s hs => (h.C s hs).below hb (by omega), h.s1, h.s2, h.z1, h.z2⟩
theorem GS.below (h : GS tG tR tC enc B st sz c W) (hb : Below W.heap.size W W') : GS tG tR tC enc B st sz c W' := h.belowB hb h.lt
theorem GS.kept (h : GS tG tR tC enc B st sz c W) (hk : ∀ k, B ≤ k → k < B + 2 + st → W'.heap[k]? = W.heap[k]?) : GS tG tR tC enc B st sz c W' :=
  ⟨(hk _ (by omega) (by have := h.s1; omega)).trans h.G, (hk _ (by omega) (by omega)).trans h.R, fun s hs => (hk _ (by omega) (by omega)).trans (h.C s hs), h.s1, h.s2, h.z1, h.z2⟩
end
end Go.Proofs.Ythldpnifodbheaa
namespace Go.Proofs.Ythldpnifodbheaa
open Go.RowKit
def bg : Nat → Nat → List Nat
  | 0, _ => []
  | n + 1, v => bg n (v / 256) ++ [v % 256]
set_option maxRecDepth 100000 in
theorem bg_length : ∀ n v, (bg n v).length = n
  | 0, _ => rfl
  | n + 1, v => by simp [bg, bg_length n]
set_option maxRecDepth 100000 in
theorem bg_lt : ∀ n v, ∀ c ∈ bg n v, c < 256
  | 0, _, c, h => by simp [bg] at h
  | n + 1, v, c, h => by
    simp only [bg, List.mem_append, List.mem_singleton] at h
    rcases h with h | rfl
    · exact bg_lt n _ c h
    · omega
set_option maxRecDepth 100000 in
theorem bg_cons : ∀ j v, bg (j + 1) v = (v / 256 ^ j % 256) :: bg j v
  | 0, v => by simp [bg]
  | j + 1, v => by
    rw [bg, bg_cons j (v / 256), bg]
    simp only [List.cons_append, Nat.div_div_eq_div_mul]
    rw [Nat.pow_succ, Nat.mul_comm 256]
def putRow (zs : List Nat) (k n v j : Nat) : List Nat := zs.take (k + n - j) ++ (bg j v ++ zs.drop (k + n))
set_option maxRecDepth 100000 in
theorem putRow_length (zs : List Nat) (k n v j : Nat) (h : k + n ≤ zs.length) (hj : j ≤ n) : (putRow zs k n v j).length = zs.length := by
  simp [putRow, bg_length]; omega
set_option maxRecDepth 100000 in
theorem putRow_zero (zs : List Nat) (k n v : Nat) : putRow zs k n v 0 = zs := by simp [putRow, bg]
set_option maxRecDepth 100000 in
theorem putRow_step (zs : List Nat) (k n v j : Nat) (h : k + n ≤ zs.length) (hj : j < n) : (putRow zs k n v j).set (k + n - 1 - j) (v / 256 ^ j % 256) = putRow zs k n v (j + 1) := by
  unfold putRow
  rw [bg_cons]
  rw [show k + n - j = (k + n - (j + 1)) + 1 from by omega, List.take_succ_eq_append_getElem (by omega), show k + n - 1 - j = k + n - (j + 1) from by omega]
  rw [List.append_assoc, List.set_append_right _ _ (by simp; omega)]
  simp
  rw [show k + n - (j + 1) - min (k + n - (j + 1)) zs.length = 0 from by omega]
  rfl
set_option maxRecDepth 100000 in
theorem nus_set (k : IntKind) (zs : List Nat) (i n : Nat) : (nus k zs).set i (.int k (n : Int)) = nus k (zs.set i n) := by simp [nus, List.map_set]
set_option maxRecDepth 100000 in
theorem grownBy_trans {a b c : World} {r : Option Nat} (h : a.grownBy b r) (g : b.grownBy c r) : a.grownBy c r :=
  ⟨g.os.trans h.os, g.tape.trans h.tape, g.output.trans h.output, Nat.le_trans h.size g.size, fun k hk hr => (g.block k (Nat.lt_of_lt_of_le hk h.size) hr).trans (h.block k hk hr)⟩
set_option maxRecDepth 100000 in
theorem putRow_app (zs : List Nat) (n v len : Nat) (h : len = zs.length) : putRow (zs ++ List.replicate n 0) len n v n = zs ++ bg n v := by
  subst h
  simp [putRow]
end Go.Proofs.Ythldpnifodbheaa
namespace Go.Proofs.Ythldpnifodbheaa
open Go.RowKit
def str (zs : List Nat) : ByteArray := ⟨(zs.map UInt8.ofNat).toArray⟩
end Go.Proofs.Ythldpnifodbheaa
namespace Go.Proofs.Ythldpnifodbheaa
open Go.RowKit Go.Lib
set_option maxRecDepth 100000 in
theorem key79 (d : Nat) (b4 b5 b6 b7 b8 b9 b10 b11 b12 b13 b14 b15 : Nat) (hb : ∀ n ∈ [b4, b5, b6, b7, b8, b9, b10, b11, b12, b13, b14, b15], n < 256) : Try.prog.keyLits (d + 2) 162 [.int .u8 (b4 : Int), .int .u8 (b5 : Int), .int .u8 (b6 : Int), .int .u8 (b7 : Int), .int .u8 (b8 : Int), .int .u8 (b9 : Int), .int .u8 (b10 : Int), .int .u8 (b11 : Int), .int .u8 (b12 : Int), .int .u8 (b13 : Int), .int .u8 (b14 : Int), .int .u8 (b15 : Int)] = some [.int .u8 (b4 : Int), .int .u8 (b5 : Int), .int .u8 (b6 : Int), .int .u8 (b7 : Int), .int .u8 (b8 : Int), .int .u8 (b9 : Int), .int .u8 (b10 : Int), .int .u8 (b11 : Int), .int .u8 (b12 : Int), .int .u8 (b13 : Int), .int .u8 (b14 : Int), .int .u8 (b15 : Int)] := by
  unfold Program.keyLits
  rw [Try.underlying162]
  have hc : Try.prog.cellsOf 5 = 1 := by kernel_rfl
  have hc2 : Try.prog.cellsOf 162 = 12 := by kernel_rfl
  simp only [List.mem_cons, List.not_mem_nil, or_false, forall_eq_or_imp, forall_eq] at hb
  obtain ⟨h4, h5, h6, h7, h8, h9, h10, h11, h12, h13, h14, h15⟩ := hb
  simp [hc, hc2, List.range_succ, key5 d b4 h4, key5 d b5 h5, key5 d b6 h6, key5 d b7 h7, key5 d b8 h8, key5 d b9 h9, key5 d b10 h10, key5 d b11 h11, key5 d b12 h12, key5 d b13 h13, key5 d b14 h14, key5 d b15 h15]
set_option maxRecDepth 100000 in
theorem key79t : Try.prog.keyTypeAt 2 162 = true := by kernel_rfl
set_option maxRecDepth 100000 in
theorem formed79 (b4 b5 b6 b7 b8 b9 b10 b11 b12 b13 b14 b15 : Nat) : (Value.agg #[.int .u8 (b4 : Int), .int .u8 (b5 : Int), .int .u8 (b6 : Int), .int .u8 (b7 : Int), .int .u8 (b8 : Int), .int .u8 (b9 : Int), .int .u8 (b10 : Int), .int .u8 (b11 : Int), .int .u8 (b12 : Int), .int .u8 (b13 : Int), .int .u8 (b14 : Int), .int .u8 (b15 : Int)]).formed Try.prog 162 = true := by kernel_rfl
set_option maxRecDepth 100000 in
theorem formed79z : (Value.agg #[.int .u8 0, .int .u8 0, .int .u8 0, .int .u8 0, .int .u8 0, .int .u8 0, .int .u8 0, .int .u8 0, .int .u8 0, .int .u8 0, .int .u8 0, .int .u8 0]).formed Try.prog 162 = true := by kernel_rfl
set_option maxRecDepth 100000 in
theorem key79z : Try.prog.keyLits 2 162 [.int .u8 0, .int .u8 0, .int .u8 0, .int .u8 0, .int .u8 0, .int .u8 0, .int .u8 0, .int .u8 0, .int .u8 0, .int .u8 0, .int .u8 0, .int .u8 0] = some [.int .u8 0, .int .u8 0, .int .u8 0, .int .u8 0, .int .u8 0, .int .u8 0, .int .u8 0, .int .u8 0, .int .u8 0, .int .u8 0, .int .u8 0, .int .u8 0] := by kernel_rfl
set_option maxRecDepth 100000 in
theorem eq79 (b4 b5 b6 b7 b8 b9 b10 b11 b12 b13 b14 b15 : Nat) (hb : ∀ n ∈ [b4, b5, b6, b7, b8, b9, b10, b11, b12, b13, b14, b15], n < 256) (w : World) :
    (Op.equalIn 10000 162 (.agg #[.int .u8 (b4 : Int), .int .u8 (b5 : Int), .int .u8 (b6 : Int), .int .u8 (b7 : Int), .int .u8 (b8 : Int), .int .u8 (b9 : Int), .int .u8 (b10 : Int), .int .u8 (b11 : Int), .int .u8 (b12 : Int), .int .u8 (b13 : Int), .int .u8 (b14 : Int), .int .u8 (b15 : Int)]) (.agg #[.int .u8 0, .int .u8 0, .int .u8 0, .int .u8 0, .int .u8 0, .int .u8 0, .int .u8 0, .int .u8 0, .int .u8 0, .int .u8 0, .int .u8 0, .int .u8 0])).run Try.prog w = .ok (decide ([b4, b5, b6, b7, b8, b9, b10, b11, b12, b13, b14, b15] = List.replicate 12 0)) w := by
  obtain ⟨r, hr, he⟩ := run_equalIn_deep (P := Try.prog) 9998 2 162 key79t w 2 2 _ _ _ _ (formed79 b4 b5 b6 b7 b8 b9 b10 b11 b12 b13 b14 b15) formed79z (key79 0 b4 b5 b6 b7 b8 b9 b10 b11 b12 b13 b14 b15 hb) key79z
  refine hr.trans ?_
  congr 1
  by_cases h : [b4, b5, b6, b7, b8, b9, b10, b11, b12, b13, b14, b15] = List.replicate 12 0
  · rw [decide_eq_true h]
    refine he.2 ?_
    simp only [List.replicate, List.cons.injEq, and_true] at h
    obtain ⟨rfl, rfl, rfl, rfl, rfl, rfl, rfl, rfl, rfl, rfl, rfl, rfl⟩ := h
    rfl
  · rw [decide_eq_false h]
    refine Bool.eq_false_iff.2 (fun q => h ?_)
    have q := he.1 q
    simp at q
    simp [List.replicate]
    omega
set_option maxRecDepth 100000 in
theorem sta79 (g : Nat) (W : World) : (Instr.arrayAt 162 (.slice (some ⟨g, 5, none⟩) 12 12)).run Try.prog W = .ok (.pointer (some ⟨g, 5, none⟩)) W := by rfl
set_option maxRecDepth 100000 in
set_option maxHeartbeats 1000000 in
theorem valid_any (v : Bool) (D : List Nat) (hl : D.length = 16) (hb : ∀ n ∈ D, n < 256) (w : World) :
    Calls Try.prog 73 #[adr v D] w fun e w' => e = .returned (.bool (vldA v D)) ∧ Below w.heap.size w w' := by
  obtain ⟨b0, b1, b2, b3, b4, b5, b6, b7, b8, b9, b10, b11, b12, b13, b14, b15, rfl⟩ := list16 D hl
  have ha : adr v [b0, b1, b2, b3, b4, b5, b6, b7, b8, b9, b10, b11, b12, b13, b14, b15] = .agg #[.bool v, .int .u8 (b0 : Int), .int .u8 (b1 : Int), .int .u8 (b2 : Int), .int .u8 (b3 : Int), .int .u8 (b4 : Int), .int .u8 (b5 : Int), .int .u8 (b6 : Int), .int .u8 (b7 : Int), .int .u8 (b8 : Int), .int .u8 (b9 : Int), .int .u8 (b10 : Int), .int .u8 (b11 : Int), .int .u8 (b12 : Int), .int .u8 (b13 : Int), .int .u8 (b14 : Int), .int .u8 (b15 : Int)] := rfl
  rw [ha]
  have hst := sta79 w.heap.size
  cases v with
  | true =>
    rw [show vldA true [b0, b1, b2, b3, b4, b5, b6, b7, b8, b9, b10, b11, b12, b13, b14, b15] = true from rfl]
    clear hb ha hl
    go_enter Try.func73, Try.ntmps73
    go_wp2_with fail
    go_ret
    exact ⟨rfl, (Below.refl _ w).alloc (Nat.le_refl _) _⟩
  | false =>
    have hv : vldA false [b0, b1, b2, b3, b4, b5, b6, b7, b8, b9, b10, b11, b12, b13, b14, b15] = decide ([b4, b5, b6, b7, b8, b9, b10, b11, b12, b13, b14, b15] = List.replicate 12 0) := by
      rw [Bool.eq_iff_iff, decide_eq_true_iff]
      constructor
      · intro h
        have h := (vldA_spec.1 h).resolve_left (by decide)
        have q := fun i h1 h2 => h i h1 h2
        simp only [List.replicate, List.cons.injEq, and_true]
        exact ⟨q 4 (by omega) (by omega), q 5 (by omega) (by omega), q 6 (by omega) (by omega), q 7 (by omega) (by omega), q 8 (by omega) (by omega), q 9 (by omega) (by omega), q 10 (by omega) (by omega), q 11 (by omega) (by omega), q 12 (by omega) (by omega), q 13 (by omega) (by omega), q 14 (by omega) (by omega), q 15 (by omega) (by omega)⟩
      · intro h
        simp only [List.replicate, List.cons.injEq, and_true] at h
        obtain ⟨rfl, rfl, rfl, rfl, rfl, rfl, rfl, rfl, rfl, rfl, rfl, rfl⟩ := h
        exact vldA_spec.2 (.inr fun i h1 h2 => by
          have : i = 4 ∨ i = 5 ∨ i = 6 ∨ i = 7 ∨ i = 8 ∨ i = 9 ∨ i = 10 ∨ i = 11 ∨ i = 12 ∨ i = 13 ∨ i = 14 ∨ i = 15 := by omega
          rcases this with rfl | rfl | rfl | rfl | rfl | rfl | rfl | rfl | rfl | rfl | rfl | rfl <;> rfl)
    rw [hv]
    have he := eq79 b4 b5 b6 b7 b8 b9 b10 b11 b12 b13 b14 b15 (fun n hn => hb n (.tail _ (.tail _ (.tail _ (.tail _ hn)))))
    generalize decide ([b4, b5, b6, b7, b8, b9, b10, b11, b12, b13, b14, b15] = List.replicate 12 0) = r at *
    have HE := lh he
    clear hb ha hl hv he
    go_enter Try.func73, Try.ntmps73
    have he := HE.out
    clear HE
    go_wp2_with fail
    go_ret
    exact ⟨rfl, (Below.refl _ w).alloc (Nat.le_refl _) _⟩
end Go.Proofs.Ythldpnifodbheaa
namespace Go.Proofs.Ythldpnifodbheaa
open Go.RowKit
set_option maxRecDepth 100000 in
theorem Try.info5 : (Try.prog.info? 5).map (fun i => (i.zero, i.size, i.bytes)) = some (some (.int .u8 0), 1, 1) := by kernel_rfl
set_option maxRecDepth 100000 in
theorem Try.size5 : (Try.prog.info? 5).map (·.size) = some 1 := by kernel_rfl
set_option maxRecDepth 100000 in
theorem size_made (n : Nat) : (madeCells #[Value.int .u8 0] n).toList.length = n := by rw [toList_madeCells_one]; simp
set_option maxRecDepth 100000 in
theorem splice_made (zs : List Nat) (n len : Nat) (h : len = zs.length) : splice (madeCells #[Value.int .u8 0] (len + n)).toList 0 (nus .u8 zs) = nus .u8 (zs ++ List.replicate n 0) := by
  rw [toList_madeCells_one, nus_append]
  subst h
  simp [splice, nus]
end Go.Proofs.Ythldpnifodbheaa
namespace Go.Proofs.Ythldpnifodbheaa
open Go.RowKit
set_option maxRecDepth 10000 in
set_option maxHeartbeats 400000 in
theorem len64_16 (w : World) :
    Calls Try.prog 93 #[.int .u64 65535] w fun e w' => e = .returned (.int .i64 16) ∧ w = w' := by
  go_enter Try.func93, Try.ntmps93
  go_wp2_with fail
  go_ret
  exact ⟨by kernel_rfl, rfl⟩
set_option maxRecDepth 10000 in
set_option maxHeartbeats 400000 in
theorem size16_any (w : World) :
    Calls Try.prog 89 #[] w fun e w' => e = .returned (.int .i64 2) ∧ w = w' := by
  go_enter Try.func89, Try.ntmps89
  go_wp2_with (go_at_call 93; refine (len64_16 _).mono ?_; rintro e w' ⟨rfl, rfl⟩)
  go_ret
  exact ⟨rfl, rfl⟩
set_option maxRecDepth 100000 in
set_option maxHeartbeats 400000 in
theorem fits16_pos (a : Option Addr) (len cap : Nat) (at0 : Int) (w : World) (hl : len ≤ maxLen) (h0 : 0 ≤ at0) :
    Calls Try.prog 94 #[.slice a len cap, .int .i64 at0] w fun e w' => e = .returned (.bool (decide (at0 ≤ (len : Int) - 2))) ∧ w = w' := by
  unfold maxLen at hl
  go_enter Try.func94, Try.ntmps94
  go_wp2_with (go_at_call 89; refine (size16_any _).mono ?_; rintro e w' ⟨rfl, rfl⟩)
  go_ret
  exact ⟨rfl, rfl⟩
end Go.Proofs.Ythldpnifodbheaa
namespace Go.Proofs.Ythldpnifodbheaa
open Go.RowKit
set_option maxRecDepth 100000 in
set_option maxHeartbeats 400000 in
theorem put16_yes (g n cap base : Nat) (k v : Nat) (zs : List Nat) (w : World) (hown : w.ownsRow base 5 1 (.slice (some ⟨g, 0, none⟩) n cap) n (nus .u8 zs)) (hn : n ≤ maxLen) (hk : k + 2 ≤ n) (hv : v < 65536) :
    Calls Try.prog 90 #[.slice (some ⟨g, 0, none⟩) n cap, .int .i64 k, .int .u16 v] w fun e w' => e = .returned (.bool true) ∧ w'.ownsRow base 5 1 (.slice (some ⟨g, 0, none⟩) n cap) n (nus .u8 (putRow zs k 2 v 2)) ∧ w.grownBy w' (some g) := by
  have hzl : zs.length = n := by have := hown.1; simpa [nus_length] using this
  unfold maxLen at hn
  have hfit : decide ((k : Int) ≤ (n : Int) - 2) = true := by simp; omega
  have HO := lh hown
  have HZ := lh hzl
  clear hown hzl
  go_enter Try.func90, Try.ntmps90
  go_wp2_with (first
    | (go_at_call 94; refine (fits16_pos _ _ _ _ _ (by unfold maxLen; omega) (by omega)).mono ?_; rintro e w' ⟨rfl, rfl⟩; rw [hfit])
    | (go_at_call 89; refine (size16_any _).mono ?_; rintro e w' ⟨rfl, rfl⟩))
  go_loopw [7, 8] (fun r i wr => ∃ j : Nat, j ≤ 2 ∧ r = .int .u64 ((v / 256 ^ j : Nat) : Int) ∧ i = .int .i64 ((k : Int) + 2 - 1 - j) ∧ wr.ownsRow base 5 1 (.slice (some ⟨g, 0, none⟩) n cap) n (nus .u8 (putRow zs k 2 v j)) ∧ w.grownBy wr (some g)) (fun _ i _ => (intOf i + 1 - k).toNat)
  case atStart => exact ⟨0, by omega, by simp, by simp, by rw [putRow_zero]; exact HO.out, World.grownBy.refl _ _⟩
  case round =>
    obtain ⟨j, hj, rfl, rfl, hown, hgr⟩ := hrel
    by_cases h1 : j < 2
    · obtain ⟨r, hr⟩ : ∃ r, r = v / 256 ^ j := ⟨_, rfl⟩
      obtain ⟨p, hp⟩ : ∃ p : Nat, (k : Int) + 2 - 1 - j = p := ⟨k + 2 - 1 - j, by omega⟩
      have hpk : k ≤ p ∧ p < k + 2 := by omega
      have hrv : r < 18446744073709551616 := by have := Nat.div_le_self v (256 ^ j); omega
      have hcell := hown.cellAt p (by omega)
      rw [nus_get _ _ _ (by rw [putRow_length _ _ _ _ _ (by rw [HZ.out]; exact hk) hj, HZ.out]; omega)] at hcell
      have hfz := hown.frozenAt p
      have hst := hown.stored p (.int .u8 ((r % 256 : Nat) : Int))
      have hstep := putRow_step zs k 2 v j (by rw [HZ.out]; exact hk) h1
      rw [← hr, show k + 2 - 1 - j = p from by omega] at hstep
      rw [nus_set, hstep] at hst
      have hr2 : r / 256 = v / 256 ^ (j + 1) := by rw [hr, Nat.div_div_eq_div_mul, Nat.pow_succ]
      rw [← hr, hp]
      obtain ⟨x, hx⟩ : ∃ x, x = (putRow zs k 2 v j).getD p 0 := ⟨_, rfl⟩
      rw [← hx] at hcell
      have HS := lh hst
      have HP := lh hp
      have HR := lh hr2
      clear hown hst hstep hp hr hr2 hx
      go_wp2
      go_roundw
      case rel => exact ⟨j + 1, by omega, by rw [← HR.out]; go_num, by have := HP.out; go_num, HS.out.1, grownBy_trans hgr HS.out.2⟩
      case measure => have := HP.out; simp [intOf]; omega
    · obtain rfl : j = 2 := by omega
      go_wp2
      go_ret
      exact ⟨rfl, hown, hgr⟩
end Go.Proofs.Ythldpnifodbheaa
namespace Go.Proofs.Ythldpnifodbheaa
open Go.RowKit
set_option maxRecDepth 100000 in
set_option maxHeartbeats 400000 in
theorem app16_any (va : Value) (zs : List Nat) (v : Nat) (w : World) (hr : Rd w va (nus .u8 zs)) (hz : zs.length ≤ 140737488351232) (hv : v < 65536) :
    Calls Try.prog 83 #[va, .int .u16 v] w fun e w' => ∃ x, e = .returned x ∧ w'.ownsRow w.heap.size 5 1 x (zs.length + 2) (nus .u8 (zs ++ bg 2 v)) ∧ Below w.heap.size w w' := by
  obtain ⟨i0, hi, hz0, hz1, hz2⟩ := info_parts Try.info5
  obtain ⟨a, cap, rfl, hlc, hl, hx⟩ := hr
  rw [nus_length] at hlc hx ⊢
  obtain ⟨len, hlen⟩ : ∃ len, len = zs.length := ⟨_, rfl⟩
  rw [← hlen] at hlc hx hz ⊢
  have HL := lh hlen
  have HX := lh hx
  clear hlen hx
  unfold maxLen at hl
  go_enter Try.func83, Try.ntmps83
  have hbase : w.heap.size ≤ w.heap.size := Nat.le_refl _
  go_wp2_with (first
    | (go_at_call 89; refine (size16_any _).mono ?_; rintro e w' ⟨rfl, rfl⟩)
    | (at_make; refine wpList_make_full _ rfl _ _ 124 rfl w.heap.size 5 i0 (.int .u8 0) 1 Try.underlying124 hi hz0 hz1 .i64 .i64 _ _ (len + 2) rfl rfl ?c1 ?c2 ?c3 ?c4 hbase ?_))
  case c1 => omega
  case c2 => omega
  case c3 => rw [hz2]; omega
  case c4 => unfold maxLen; omega
  intro w1 hown hgr
  have hb1 : Below w.heap.size w w1 := (Below.refl _ _).grown hgr (Nat.le_refl _) (fun k hk => by cases hk)
  obtain ⟨hh, _⟩ := own_heap hown
  have hrd : Rd w1 (.slice a len cap) (nus .u8 zs) := (show Rd w (.slice a len cap) (nus .u8 zs) from ⟨a, cap, by rw [nus_length, HL.out], by rw [nus_length, ← HL.out]; exact hlc, hl, by rw [nus_length, ← HL.out]; exact HX.out⟩).below hb1
  have hsrc := lh hrd.src
  have HH := lh hh
  have HB1 := lh hb1
  clear hh hown hgr hrd hb1
  go_wp2_with (with_reducible refine wpList_copy_splice rfl (.tmp 11) (.tmp 12) 124 124 rfl 5 Try.underlying124 Try.size5 _ _ _ _ _ _ rfl rfl w.heap.size 0 _ 5 HH.out (nus .u8 zs) ?d1 ?d2 ?d3 (oneCell_nus _ _) w.heap.size w HB1.out (Nat.le_refl _) ?_)
  case d1 => rw [nus_length, ← HL.out]; exact (Nat.min_eq_left (by omega)).symm
  case d2 => exact hsrc.out
  case d3 => rw [nus_length, ← HL.out, size_made]; omega
  intro w2 h2 hb2
  have hh2 := h2.out
  rw [splice_made zs 2 _ HL.out] at hh2
  have hown2 := own_of_heap (base := w.heap.size) (n := len + 2) hh2 (Nat.le_refl _) (by rw [nus_length, List.length_append, List.length_replicate, ← HL.out]) (by unfold maxLen; omega)
  have HO := lh hown2
  have HB2 := lh hb2
  clear hh2 hown2 h2 hb2 hsrc HH HB1 HX
  go_wp2_with (go_at_call 90; (refine (put16_yes w.heap.size (len + 2) (len + 2) w.heap.size len v _ _ HO.out (by unfold maxLen; omega) (Nat.le_refl _) hv).mono ?_); rintro e w3 ⟨rfl, hown3, hgr3⟩)
  go_ret
  refine ⟨_, rfl, ?_, HB2.out.grown hgr3 HB2.out.size (fun k hk => by cases hk; exact Nat.le_refl _)⟩
  rw [putRow_app zs 2 v len HL.out] at hown3
  exact hown3
end Go.Proofs.Ythldpnifodbheaa
namespace Go.Proofs.Ythldpnifodbheaa
open Go.RowKit
set_option maxRecDepth 100000 in
theorem wpAnyH_mono {P : Program} {ops : Array Oper} {Q : Exit → Act → World → Prop} {md : Region.Mode} {S S' : World → Prop} (hS : ∀ w, S' w → S w) :
    ∀ (fuel : Nat) (listed : Array Bool) (a : Act) (w : World), wpAnyH P md ops Q S' fuel listed a w → wpAnyH P md ops Q S fuel listed a w
  | 0, _, _, _, h => h
  | _ + 1, _, _, _, h => ⟨h.1, fun i hi => wpOp_mono (fun _ _ h' => ⟨hS _ h'.1, wpAnyH_mono hS _ _ _ _ h'.2⟩) (h.2 i hi)⟩
end Go.Proofs.Ythldpnifodbheaa
namespace Go.Proofs.Ythldpnifodbheaa
section
variable {P : Program} {md : Region.Mode} {S : World → Prop} {Q : Exit → Act → World → Prop}
def lastB (md : Region.Mode) (ops : Array Oper) (n : Nat) : Bool :=
  decide (ops.size = n + 1) && ops.all (fun o => o.guard.isNone) && ((List.range (n + 1)).all fun i => ((ops[i]?).map fun o => o.after.all fun e => decide (e.on < i)).getD true) &&
  ((List.range n).all fun i => (List.range (n + 1)).any fun j => decide (i < j) && ((ops[j]?).map fun o => o.after.any fun e => Region.binds md e && decide (e.on = i)).getD false)
set_option maxRecDepth 100000 in
theorem lastB_spec {ops : Array Oper} {n : Nat} (h : lastB md ops n = true) : ops.size = n + 1 ∧ (∀ (i : Nat) (o : Oper), ops[i]? = some o → o.guard = none ∧ ∀ e ∈ o.after, e.on < i) ∧ (∀ i, i < n → ∃ j o, i < j ∧ j ≤ n ∧ ops[j]? = some o ∧ ∃ e ∈ o.after, Region.binds md e = true ∧ e.on = i) := by
  unfold lastB at h
  simp only [Bool.and_eq_true, decide_eq_true_iff] at h
  obtain ⟨⟨⟨h1, h2⟩, h3⟩, h4⟩ := h
  refine ⟨h1, fun i o ho => ⟨?_, fun e he => ?_⟩, fun i hi => ?_⟩
  · have := Array.all_eq_true_iff_forall_mem.1 h2 o (Array.mem_of_getElem? ho)
    simpa using this
  · have hi : i < n + 1 := by have := (Array.getElem?_eq_some_iff.1 ho).1; omega
    have := List.all_eq_true.1 h3 i (List.mem_range.2 hi)
    rw [ho] at this
    have := Array.all_eq_true_iff_forall_mem.1 this e he
    exact of_decide_eq_true this
  · have := List.all_eq_true.1 h4 i (List.mem_range.2 hi)
    obtain ⟨j, hj, hb⟩ := List.any_eq_true.1 this
    rw [Bool.and_eq_true] at hb
    have hjn := List.mem_range.1 hj
    have hoj : ops[j]? = some ops[j] := Array.getElem?_eq_getElem (by omega)
    have hb2 := hb.2
    have hb0 := hb.1
    rw [hoj] at hb2
    obtain ⟨e, he, hb⟩ := Array.any_eq_true'.1 hb2
    rw [Bool.and_eq_true] at hb
    exact ⟨j, _, of_decide_eq_true hb0, by omega, hoj, e, he, hb.1, of_decide_eq_true hb.2⟩
set_option maxRecDepth 100000 in
theorem pop_at {α : Type} (ops : Array α) (n i : Nat) (h : ops.size = n + 1) (hi : i < n) : ops.pop[i]? = ops[i]? := by
  rw [Array.getElem?_pop, if_pos (by omega)]
set_option maxRecDepth 100000 in
theorem set_push (l : Array Bool) (i : Nat) (h : i < l.size) : (l.push false).setIfInBounds i true = (l.setIfInBounds i true).push false := by
  apply Array.ext_getElem?
  intro j
  simp only [Array.getElem?_setIfInBounds, Array.getElem?_push, Array.size_setIfInBounds, Array.size_push]
  by_cases e : i = j
  · subst e; simp [h, Nat.ne_of_lt h]; omega
  · simp [e]
set_option maxRecDepth 100000 in
theorem push_at (l : Array Bool) (i : Nat) (d : Bool) (h : i < l.size) : (l.push false).getD i d = l.getD i d := by
  simp [Array.getD_eq_getD_getElem?, Array.getElem?_push_lt h, Array.getElem?_eq_getElem h]
def ahead (P : Program) (ops : Array Oper) (n : Nat) (Q : Exit → Act → World → Prop) : Exit → Act → World → Prop := fun c a w => match c with
  | .normal => wpOp P ops Q n (fun a' w' => Q .normal a' w') a w
  | c => Q c a w
set_option maxRecDepth 100000 in
theorem op_same {ops : Array Oper} {n i : Nat} {o : Oper} (hi : ops[i]? = some o) (hp : ops.pop[i]? = some o) (hg : o.guard = none) {K : Act → World → Prop} {a : Act} {w : World} (h : wpOp P ops.pop (ahead P ops n Q) i K a w) : wpOp P ops Q i K a w := by
  have hw : ∀ f, Region.wanted o f = true := fun f => by simp [Region.wanted, hg]
  unfold wpOp at h ⊢
  rw [hp] at h
  rw [hi]
  simp only [hw, if_true] at h ⊢
  exact h
set_option maxRecDepth 100000 in
theorem any_done {ops : Array Oper} {listed : Array Bool} {a : Act} {w : World} (hr : Region.ready md ops listed = []) (h : Q .normal a w) : ∀ f, wpAny P md ops Q f listed a w
  | 0 => ⟨hr, h⟩
  | _ + 1 => ⟨fun _ => h, by rw [hr]; simp⟩
set_option maxRecDepth 100000 in
theorem some_ready {ops : Array Oper} {listed : Array Bool} (hs : listed.size = ops.size) (hb : ∀ (i : Nat) (o : Oper), ops[i]? = some o → ∀ e ∈ o.after, e.on < i) : ∀ (i : Nat), i < ops.size → listed.getD i true = false → Region.ready md ops listed ≠ [] := by
  intro i
  induction i using Nat.strongRecOn with
  | _ i ih =>
    intro hi hl he
    have hoi : ops[i]? = some ops[i] := Array.getElem?_eq_getElem hi
    by_cases hall : ∀ e ∈ (ops[i]).after, Region.binds md e = true → listed.getD e.on false = true
    · have : i ∈ Region.ready md ops listed := mem_ready.2 ⟨hl, _, hoi, hall⟩
      rw [he] at this; cases this
    · simp only [Classical.not_forall] at hall
      obtain ⟨e, hem, _, hne⟩ := hall
      have hlt := hb i _ hoi e hem
      refine ih e.on hlt (by omega) ?_ he
      have hsz : e.on < listed.size := by omega
      simp [Array.getD_eq_getD_getElem?, Array.getElem?_eq_getElem hsz] at hne ⊢
      exact hne
def Closed (md : Region.Mode) (ops : Array Oper) (listed : Array Bool) : Prop := ∀ j o, ops[j]? = some o → listed.getD j false = true → ∀ e ∈ o.after, Region.binds md e = true → listed.getD e.on false = true
set_option maxRecDepth 100000 in
theorem Closed.set {ops : Array Oper} {listed : Array Bool} {i : Nat} {o : Oper} (h : Closed md ops listed) (ho : ops[i]? = some o) (hi : ∀ e ∈ o.after, Region.binds md e = true → listed.getD e.on false = true) : Closed md ops (listed.setIfInBounds i true) := by
  have keep : ∀ k, listed.getD k false = true → (listed.setIfInBounds i true).getD k false = true := fun k hk => by
    have hks : k < listed.size := by
      rcases Nat.lt_or_ge k listed.size with q | q
      · exact q
      · simp [Array.getD_eq_getD_getElem?, Array.getElem?_eq_none q] at hk
    by_cases e : i = k
    · subst e; simp [Array.getD_eq_getD_getElem?, hks]
    · simp [Array.getD_eq_getD_getElem?, e] at hk ⊢; exact hk
  intro j o' ho' hl e he hb
  by_cases hij : i = j
  · subst hij
    cases Option.some.inj (ho.symm.trans ho')
    exact keep _ (hi e he hb)
  · refine keep _ (h j o' ho' ?_ e he hb)
    simp [Array.getD_eq_getD_getElem?, hij] at hl ⊢; exact hl
set_option maxRecDepth 100000 in
theorem held_step {ops : Array Oper} {n fuel : Nat} (hB : lastB md ops n = true) (listed : Array Bool) (a : Act) (w : World) (hs : listed.size = n) (hcl : Closed md ops listed)
    (hA : Region.ready md ops.pop listed = [] → ahead P ops n Q .normal a w)
    (hI : ∀ i ∈ Region.ready md ops.pop listed, wpOp P ops Q i (wpAny P md ops Q fuel ((listed.push false).setIfInBounds i true)) a w) : wpAny P md ops Q (fuel + 1) (listed.push false) a w := by
  obtain ⟨hn, hall, hlast⟩ := lastB_spec hB
  have hpn : (listed.push false).getD n true = false := by rw [← hs]; simp [Array.getD_eq_getD_getElem?]
  refine ⟨fun h0 => absurd h0 (some_ready (by rw [Array.size_push]; omega) (fun i o ho => (hall i o ho).2) n (by omega) hpn), fun i hi => ?_⟩
  obtain ⟨h1, o, ho, h2⟩ := mem_ready.1 hi
  have hlt := (Array.getElem?_eq_some_iff.1 ho).1
  by_cases hin : i < n
  · refine hI i (mem_ready.2 ⟨?_, o, ?_, fun e he hb => ?_⟩)
    · rw [← push_at listed i true (by omega)]; exact h1
    · rw [pop_at ops n i hn hin]; exact ho
    · have := (hall i o ho).2 e he
      rw [← push_at listed e.on false (by omega)]; exact h2 e he hb
  · obtain rfl : i = n := by omega
    have hdone : ∀ (d j : Nat), i - j = d → j < i → listed.getD j false = true := fun d => by
      induction d using Nat.strongRecOn with
      | _ d ih =>
        intro j hd hj
        obtain ⟨j', o', hlt', hle', ho', e, he, hb, hon⟩ := hlast j hj
        by_cases hq : j' = i
        · subst hq
          cases Option.some.inj (ho.symm.trans ho')
          have := h2 e he hb
          rw [hon, push_at listed j false (by omega)] at this
          exact this
        · have := hcl j' o' ho' (ih (i - j') (by omega) j' rfl (by omega)) e he hb
          rw [hon] at this; exact this
    replace hdone : ∀ j, j < i → listed.getD j false = true := fun j hj => hdone _ j rfl hj
    have hr : Region.ready md ops.pop listed = [] := by
      rw [List.eq_nil_iff_forall_not_mem]
      intro j hj
      obtain ⟨q1, o', ho', _⟩ := mem_ready.1 hj
      have hjn : j < i := by
        have := (Array.getElem?_eq_some_iff.1 ho').1
        rw [Array.size_pop] at this
        omega
      have q2 := hdone j hjn
      have hsz : j < listed.size := by omega
      simp [Array.getD_eq_getD_getElem?, Array.getElem?_eq_getElem hsz] at q1 q2
      rw [q1] at q2; cases q2
    refine wpOp_mono (fun a' w' h' => any_done ?_ h' _) (hA hr)
    rw [List.eq_nil_iff_forall_not_mem]
    intro j hj
    obtain ⟨q1, o', ho', _⟩ := mem_ready.1 hj
    have hjl := (Array.getElem?_eq_some_iff.1 ho').1
    by_cases hji : j = i
    · subst hji
      simp [Array.getD_eq_getD_getElem?, hs] at q1
    · have q2 := hdone j (by omega)
      have hsz : j < listed.size := by omega
      simp [Array.getD_eq_getD_getElem?, Ne.symm hji, Array.getElem?_push_lt hsz] at q1
      simp [Array.getD_eq_getD_getElem?, Array.getElem?_eq_getElem hsz] at q2
      rw [q1] at q2; cases q2
set_option maxRecDepth 100000 in
theorem held_last {ops : Array Oper} {n : Nat} (hB : lastB md ops n = true) : ∀ (fuel : Nat) (listed : Array Bool) (a : Act) (w : World), listed.size = n → Closed md ops listed →
    wpAnyH P md ops.pop (ahead P ops n Q) S fuel listed a w → wpAny P md ops Q (fuel + 1) (listed.push false) a w := by
  obtain ⟨hn, hall, hlast⟩ := lastB_spec hB
  intro fuel
  induction fuel with
  | zero =>
    intro listed a w hs hcl h
    exact held_step hB listed a w hs hcl (fun _ => h.2) (fun i hi => by rw [h.1] at hi; cases hi)
  | succ f ih =>
    intro listed a w hs hcl h
    refine held_step hB listed a w hs hcl h.1 (fun i hi => ?_)
    obtain ⟨_, o0, ho0, hready⟩ := mem_ready.1 hi
    have hin : i < n := by
      have ho := ho0
      have := (Array.getElem?_eq_some_iff.1 ho).1
      rw [Array.size_pop] at this
      omega
    have hp : ops.pop[i]? = ops[i]? := pop_at ops n i hn hin
    have ho : ops[i]? = some ops[i] := Array.getElem?_eq_getElem (by omega)
    refine op_same ho (hp.trans ho) (hall i _ ho).1 (wpOp_mono (fun a' w' h' => ?_) (h.2 i hi))
    have := ih (listed.setIfInBounds i true) a' w' (by rw [Array.size_setIfInBounds, hs]) (hcl.set (hp.symm.trans ho0) hready) h'.2
    rw [set_push listed i (by omega)]
    exact this
set_option maxRecDepth 100000 in
theorem wp_region_held_last {ops : Array Oper} {id n : Nat} {a : Act} {w : World} (hm : P.follows .mixedOrders = true) (hB : lastB .any ops n = true)
    (h : wpAnyH P .any ops.pop (ahead P ops n Q) S n (Array.replicate n false) a w.drew) : (Code.region id ops true).wp P Q a w := by
  have hn := (lastB_spec hB).1
  have := held_last hB n (Array.replicate n false) a w.drew (by simp) (fun j o _ hl => by
    rcases Nat.lt_or_ge j n with q | q <;> simp [Array.getD_eq_getD_getElem?, q] at hl) h
  refine wp_region_any hm ?_
  rw [hn, Array.replicate_succ]
  exact this
end
end Go.Proofs.Ythldpnifodbheaa
