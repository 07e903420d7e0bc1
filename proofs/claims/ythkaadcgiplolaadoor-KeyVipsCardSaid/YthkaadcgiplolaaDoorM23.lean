/- Texts that the walks of this seat lean on, put together. -/
import Derived.Test.YthkaadcgiplolaaDoorTk
import Derived.Test.YthkaadcgiplolaaDoorM12
import Derived.Test.YthkaadcgiplolaaDoorM20
import Derived.Test.YthkaadcgiplolaaDoorM21
import Derived.Test.YthkaadcgiplolaaDoorM22
namespace Go.Proofs.YthkaadcgiplolaaDoor
open Go.RowKit
structure Fl where
  p : Nat
  sv : Bool
  S : List Nat
  dv : Bool
  D : List Nat
  sp : Nat
  dp : Nat
structure Fl.Fit (k : Fl) : Prop where
  p : k.p < 256
  lS : k.S.length = 16
  lD : k.D.length = 16
  bS : ∀ n ∈ k.S, n < 256
  bD : ∀ n ∈ k.D, n < 256
  sp : k.sp < 65536
  dp : k.dp < 65536
def Fl.cs (k : Fl) : Array Value := kcells k.p (cellsA k.sv k.S) (cellsA k.dv k.D) k.sp k.dp
def vK (k : Fl) : Bool := (decide (k.p = 6) || decide (k.p = 17)) && ((k.sv == k.dv) && (vldA k.sv k.S && vldA k.dv k.D))
def bR (k : Fl) : List Nat := k.p :: (if k.sv then 6 else 4) :: (bytesA k.sv k.S ++ (bytesA k.dv k.D ++ (bg 2 k.sp ++ bg 2 k.dp)))
def bK (k : Fl) : List Nat := if vK k then bR k else []
def v6F (zs : List Nat) : Bool := decide (zs.getD 1 0 = 6)
def nF (v : Bool) : Nat := if v then 16 else 4
def okF (zs : List Nat) : Bool := (decide (zs.getD 1 0 = 4) || decide (zs.getD 1 0 = 6)) && (decide (zs.length = 6 + 2 * nF (v6F zs)) && (decide (zs.getD 0 0 = 6) || decide (zs.getD 0 0 = 17)))
def fF (zs : List Nat) : Fl :=
  { p := zs.getD 0 0, sv := v6F zs, S := (zs.drop 2).take (nF (v6F zs)) ++ List.replicate (16 - nF (v6F zs)) 0, dv := v6F zs, D := (zs.drop (2 + nF (v6F zs))).take (nF (v6F zs)) ++ List.replicate (16 - nF (v6F zs)) 0,
    sp := be ((zs.drop (2 + 2 * nF (v6F zs))).take 2), dp := be ((zs.drop (4 + 2 * nF (v6F zs))).take 2) }
def k0 : Fl := ⟨0, false, z16, false, z16, 0, 0⟩
def fcs (zs : List Nat) : Array Value := if okF zs then (fF zs).cs else k0.cs
set_option maxRecDepth 100000 in
theorem be2 (a b : Nat) : be [a, b] = a * 256 + b := by simp [be]
set_option maxRecDepth 100000 in
theorem bg2 (v : Nat) (h : v < 65536) : bg 2 v = [v / 256, v % 256] := by
  have q : v / 256 % 256 = v / 256 := Nat.mod_eq_of_lt (by omega)
  simp [bg, q]
set_option maxRecDepth 100000 in
theorem list4 (l : List Nat) (h : l.length = 4) : ∃ a b c d, l = [a, b, c, d] := by
  match l, h with
  | [a, b, c, d], _ => exact ⟨a, b, c, d, rfl⟩
set_option maxRecDepth 100000 in
theorem val_tail (bs : List Nat) (h : bs.length = 16) (hv : vldA false bs = true) : ∃ a b c d, bs = [a, b, c, d, 0, 0, 0, 0, 0, 0, 0, 0, 0, 0, 0, 0] := by
  obtain ⟨b0, b1, b2, b3, b4, b5, b6, b7, b8, b9, b10, b11, b12, b13, b14, b15, rfl⟩ := list16 bs h
  have q := vldA_spec.1 hv
  rcases q with q | q
  · cases q
  refine ⟨b0, b1, b2, b3, ?_⟩
  obtain rfl : b4 = 0 := q 4 (by omega) (by omega)
  obtain rfl : b5 = 0 := q 5 (by omega) (by omega)
  obtain rfl : b6 = 0 := q 6 (by omega) (by omega)
  obtain rfl : b7 = 0 := q 7 (by omega) (by omega)
  obtain rfl : b8 = 0 := q 8 (by omega) (by omega)
  obtain rfl : b9 = 0 := q 9 (by omega) (by omega)
  obtain rfl : b10 = 0 := q 10 (by omega) (by omega)
  obtain rfl : b11 = 0 := q 11 (by omega) (by omega)
  obtain rfl : b12 = 0 := q 12 (by omega) (by omega)
  obtain rfl : b13 = 0 := q 13 (by omega) (by omega)
  obtain rfl : b14 = 0 := q 14 (by omega) (by omega)
  obtain rfl : b15 = 0 := q 15 (by omega) (by omega)
  rfl
set_option maxRecDepth 100000 in
theorem vK_yes {k : Fl} (h : vK k = true) : (k.p = 6 ∨ k.p = 17) ∧ k.dv = k.sv ∧ vldA k.sv k.S = true ∧ vldA k.sv k.D = true := by
  unfold vK at h
  simp only [Bool.and_eq_true, Bool.or_eq_true, decide_eq_true_iff, beq_iff_eq] at h
  obtain ⟨h1, h2, h3, h4⟩ := h
  exact ⟨h1, h2.symm, h3, by rw [h2]; exact h4⟩
set_option maxRecDepth 100000 in
theorem okF_yes {zs : List Nat} (h : okF zs = true) : (zs.getD 1 0 = 4 ∨ zs.getD 1 0 = 6) ∧ zs.length = 6 + 2 * nF (v6F zs) ∧ (zs.getD 0 0 = 6 ∨ zs.getD 0 0 = 17) := by
  unfold okF at h
  simpa only [Bool.and_eq_true, Bool.or_eq_true, decide_eq_true_iff] using h
set_option maxRecDepth 100000 in
theorem list14 (l : List Nat) (h : l.length = 14) : ∃ a0 a1 a2 a3 a4 a5 a6 a7 a8 a9 a10 a11 a12 a13, l = [a0, a1, a2, a3, a4, a5, a6, a7, a8, a9, a10, a11, a12, a13] := by
  match l, h with
  | [a0, a1, a2, a3, a4, a5, a6, a7, a8, a9, a10, a11, a12, a13], _ => exact ⟨a0, a1, a2, a3, a4, a5, a6, a7, a8, a9, a10, a11, a12, a13, rfl⟩
set_option maxRecDepth 100000 in
theorem okF_four (zs : List Nat) (h : okF zs = true) (h4 : zs.getD 1 0 = 4) : ∃ p a0 a1 a2 a3 c0 c1 c2 c3 x0 x1 y0 y1, (p = 6 ∨ p = 17) ∧ zs = [p, 4, a0, a1, a2, a3, c0, c1, c2, c3, x0, x1, y0, y1] := by
  obtain ⟨h1, h2, h3⟩ := okF_yes h
  have hv : v6F zs = false := by unfold v6F; rw [h4]; rfl
  rw [hv] at h2
  obtain ⟨a0, a1, a2, a3, a4, a5, a6, a7, a8, a9, a10, a11, a12, a13, rfl⟩ := list14 zs h2
  obtain rfl : a1 = 4 := h4
  exact ⟨a0, a2, a3, a4, a5, a6, a7, a8, a9, a10, a11, a12, a13, h3, rfl⟩
set_option maxRecDepth 100000 in
theorem okF_six (zs : List Nat) (h : okF zs = true) (h6 : zs.getD 1 0 = 6) : ∃ p S D x0 x1 y0 y1, (p = 6 ∨ p = 17) ∧ S.length = 16 ∧ D.length = 16 ∧ zs = p :: 6 :: (S ++ (D ++ [x0, x1, y0, y1])) := by
  obtain ⟨h1, h2, h3⟩ := okF_yes h
  have hv : v6F zs = true := by unfold v6F; rw [h6]; rfl
  rw [hv] at h2
  replace h2 : zs.length = 38 := h2
  match zs, h2 with
  | p :: q :: r, h2 =>
    obtain rfl : q = 6 := h6
    have hr : r.length = 36 := by simpa using h2
    obtain ⟨x0, x1, y0, y1, hq⟩ := list4 (r.drop 32) (by rw [List.length_drop, hr])
    refine ⟨p, r.take 16, (r.drop 16).take 16, x0, x1, y0, y1, h3, by rw [List.length_take, hr]; rfl, by rw [List.length_take, List.length_drop, hr]; rfl, ?_⟩
    rw [← hq, show r.drop 32 = (r.drop 16).drop 16 from by rw [List.drop_drop], List.take_append_drop, List.take_append_drop]
set_option maxRecDepth 100000 in
theorem fF_four (p a0 a1 a2 a3 c0 c1 c2 c3 x0 x1 y0 y1 : Nat) : fF [p, 4, a0, a1, a2, a3, c0, c1, c2, c3, x0, x1, y0, y1] = ⟨p, false, [a0, a1, a2, a3, 0, 0, 0, 0, 0, 0, 0, 0, 0, 0, 0, 0], false, [c0, c1, c2, c3, 0, 0, 0, 0, 0, 0, 0, 0, 0, 0, 0, 0], x0 * 256 + x1, y0 * 256 + y1⟩ := by
  rw [← be2, ← be2]; rfl
set_option maxRecDepth 100000 in
theorem fF_sixp (p : Nat) (S D : List Nat) (x0 x1 y0 y1 : Nat) (hS : S.length = 16) (hD : D.length = 16) : fF (p :: 6 :: (S ++ (D ++ [x0, x1, y0, y1]))) = ⟨p, true, S, true, D, x0 * 256 + x1, y0 * 256 + y1⟩ := by
  obtain ⟨b0, b1, b2, b3, b4, b5, b6, b7, b8, b9, b10, b11, b12, b13, b14, b15, rfl⟩ := list16 S hS
  obtain ⟨c0, c1, c2, c3, c4, c5, c6, c7, c8, c9, c10, c11, c12, c13, c14, c15, rfl⟩ := list16 D hD
  rw [← be2, ← be2]; rfl
set_option maxRecDepth 100000 in
theorem okF_mk4 (p a0 a1 a2 a3 c0 c1 c2 c3 x0 x1 y0 y1 : Nat) (hp : p = 6 ∨ p = 17) : okF [p, 4, a0, a1, a2, a3, c0, c1, c2, c3, x0, x1, y0, y1] = true := by
  rcases hp with rfl | rfl <;> rfl
set_option maxRecDepth 100000 in
theorem okF_mk6 (p : Nat) (S D : List Nat) (x0 x1 y0 y1 : Nat) (hS : S.length = 16) (hD : D.length = 16) (hp : p = 6 ∨ p = 17) : okF (p :: 6 :: (S ++ (D ++ [x0, x1, y0, y1]))) = true := by
  obtain ⟨b0, b1, b2, b3, b4, b5, b6, b7, b8, b9, b10, b11, b12, b13, b14, b15, rfl⟩ := list16 S hS
  obtain ⟨c0, c1, c2, c3, c4, c5, c6, c7, c8, c9, c10, c11, c12, c13, c14, c15, rfl⟩ := list16 D hD
  rcases hp with rfl | rfl <;> rfl
set_option maxRecDepth 100000 in
theorem bK_four (k : Fl) (hf : k.Fit) (hv : vK k = true) (h4 : k.sv = false) : ∃ a0 a1 a2 a3 c0 c1 c2 c3, k = ⟨k.p, false, [a0, a1, a2, a3, 0, 0, 0, 0, 0, 0, 0, 0, 0, 0, 0, 0], false, [c0, c1, c2, c3, 0, 0, 0, 0, 0, 0, 0, 0, 0, 0, 0, 0], k.sp, k.dp⟩ ∧ bK k = [k.p, 4, a0, a1, a2, a3, c0, c1, c2, c3, k.sp / 256, k.sp % 256, k.dp / 256, k.dp % 256] := by
  obtain ⟨h1, h2, h3, h5⟩ := vK_yes hv
  obtain ⟨f1, f2, f3, f4, f5, f6, f7⟩ := hf
  unfold bK
  rw [hv, if_pos rfl]
  unfold bR
  rw [bg2 _ f6, bg2 _ f7]
  obtain ⟨p, sv, S, dv, D, sp, dp⟩ := k
  simp only at *
  subst h4 h2
  obtain ⟨a0, a1, a2, a3, rfl⟩ := val_tail S f2 h3
  obtain ⟨c0, c1, c2, c3, rfl⟩ := val_tail D f3 h5
  exact ⟨a0, a1, a2, a3, c0, c1, c2, c3, rfl, rfl⟩
set_option maxRecDepth 100000 in
theorem bK_six (k : Fl) (hf : k.Fit) (hv : vK k = true) (h6 : k.sv = true) : k = ⟨k.p, true, k.S, true, k.D, k.sp, k.dp⟩ ∧ bK k = k.p :: 6 :: (k.S ++ (k.D ++ [k.sp / 256, k.sp % 256, k.dp / 256, k.dp % 256])) := by
  obtain ⟨h1, h2, h3, h5⟩ := vK_yes hv
  obtain ⟨f1, f2, f3, f4, f5, f6, f7⟩ := hf
  unfold bK
  rw [hv, if_pos rfl]
  unfold bR
  rw [bg2 _ f6, bg2 _ f7]
  obtain ⟨p, sv, S, dv, D, sp, dp⟩ := k
  simp only at *
  subst h6 h2
  exact ⟨rfl, rfl⟩
set_option maxRecDepth 100000 in
theorem back_ok (k : Fl) (hf : k.Fit) (hv : vK k = true) : okF (bK k) = true ∧ fF (bK k) = k := by
  have h1 := (vK_yes hv).1
  have q1 : k.sp / 256 * 256 + k.sp % 256 = k.sp := by omega
  have q2 : k.dp / 256 * 256 + k.dp % 256 = k.dp := by omega
  cases h : k.sv with
  | false =>
    obtain ⟨a0, a1, a2, a3, c0, c1, c2, c3, e1, e2⟩ := bK_four k hf hv h
    rw [e2]
    refine ⟨okF_mk4 _ _ _ _ _ _ _ _ _ _ _ _ _ h1, ?_⟩
    rw [fF_four, q1, q2]
    exact e1.symm
  | true =>
    obtain ⟨e1, e2⟩ := bK_six k hf hv h
    rw [e2]
    refine ⟨okF_mk6 _ _ _ _ _ _ _ hf.lS hf.lD h1, ?_⟩
    rw [fF_sixp _ _ _ _ _ _ _ hf.lS hf.lD, q1, q2]
    exact e1.symm
set_option maxRecDepth 100000 in
theorem fF_ok (zs : List Nat) (h : okF zs = true) (hb : ∀ c ∈ zs, c < 256) : (fF zs).Fit ∧ vK (fF zs) = true ∧ bK (fF zs) = zs := by
  rcases (okF_yes h).1 with h4 | h6
  · obtain ⟨p, a0, a1, a2, a3, c0, c1, c2, c3, x0, x1, y0, y1, hp, rfl⟩ := okF_four zs h h4
    simp only [List.mem_cons, List.not_mem_nil, or_false, forall_eq_or_imp, forall_eq] at hb
    obtain ⟨b0, -, b2, b3, b4, b5, b6, b7, b8, b9, b10, b11, b12, b13⟩ := hb
    rw [fF_four]
    have hF : Fl.Fit ⟨p, false, [a0, a1, a2, a3, 0, 0, 0, 0, 0, 0, 0, 0, 0, 0, 0, 0], false, [c0, c1, c2, c3, 0, 0, 0, 0, 0, 0, 0, 0, 0, 0, 0, 0], x0 * 256 + x1, y0 * 256 + y1⟩ :=
      ⟨b0, rfl, rfl, by intro n hn; simp at hn; omega, by intro n hn; simp at hn; omega, by show x0 * 256 + x1 < 65536; omega, by show y0 * 256 + y1 < 65536; omega⟩
    have hV : vK ⟨p, false, [a0, a1, a2, a3, 0, 0, 0, 0, 0, 0, 0, 0, 0, 0, 0, 0], false, [c0, c1, c2, c3, 0, 0, 0, 0, 0, 0, 0, 0, 0, 0, 0, 0], x0 * 256 + x1, y0 * 256 + y1⟩ = true := by
      rcases hp with rfl | rfl <;> rfl
    refine ⟨hF, hV, ?_⟩
    unfold bK
    rw [hV, if_pos rfl]
    unfold bR
    simp only
    rw [bg2 _ (by omega), bg2 _ (by omega)]
    rw [show (x0 * 256 + x1) / 256 = x0 by omega, show (x0 * 256 + x1) % 256 = x1 by omega, show (y0 * 256 + y1) / 256 = y0 by omega, show (y0 * 256 + y1) % 256 = y1 by omega]
    rfl
  · obtain ⟨p, S, D, x0, x1, y0, y1, hp, hS, hD, rfl⟩ := okF_six zs h h6
    rw [fF_sixp _ _ _ _ _ _ _ hS hD]
    have hbS : ∀ c ∈ S, c < 256 := fun c hc => hb c (by simp [hc])
    have hbD : ∀ c ∈ D, c < 256 := fun c hc => hb c (by simp [hc])
    have b0 := hb p (by simp)
    have b1 := hb x0 (by simp)
    have b2 := hb x1 (by simp)
    have b3 := hb y0 (by simp)
    have b4 := hb y1 (by simp)
    have hF : Fl.Fit ⟨p, true, S, true, D, x0 * 256 + x1, y0 * 256 + y1⟩ := ⟨b0, hS, hD, hbS, hbD, by show x0 * 256 + x1 < 65536; omega, by show y0 * 256 + y1 < 65536; omega⟩
    have hV : vK ⟨p, true, S, true, D, x0 * 256 + x1, y0 * 256 + y1⟩ = true := by
      rcases hp with rfl | rfl <;> rfl
    refine ⟨hF, hV, ?_⟩
    unfold bK
    rw [hV, if_pos rfl]
    unfold bR
    simp only
    rw [bg2 _ (by omega), bg2 _ (by omega)]
    rw [show (x0 * 256 + x1) / 256 = x0 by omega, show (x0 * 256 + x1) % 256 = x1 by omega, show (y0 * 256 + y1) / 256 = y0 by omega, show (y0 * 256 + y1) % 256 = y1 by omega]
    rfl
set_option maxRecDepth 100000 in
theorem bK_inj (a b : Fl) (ha : a.Fit) (hb : b.Fit) (va : vK a = true) (vb : vK b = true) (h : bK a = bK b) : a = b := by
  rw [← (back_ok a ha va).2, ← (back_ok b hb vb).2, h]
set_option maxRecDepth 100000 in
theorem bK_len (k : Fl) (hf : k.Fit) (hv : vK k = true) : (bK k).length = 6 + 2 * nF k.sv := by
  cases h : k.sv with
  | false =>
    obtain ⟨a0, a1, a2, a3, c0, c1, c2, c3, e1, e2⟩ := bK_four k hf hv h
    rw [e2]; rfl
  | true =>
    obtain ⟨e1, e2⟩ := bK_six k hf hv h
    rw [e2]
    simp [nF, hf.lS, hf.lD]
set_option maxRecDepth 100000 in
theorem bytesA_lt (v : Bool) (bs : List Nat) (h : ∀ c ∈ bs, c < 256) : ∀ c ∈ bytesA v bs, c < 256 := by
  unfold bytesA
  split
  · exact h
  · exact fun c hc => h c (List.mem_of_mem_take hc)
set_option maxRecDepth 100000 in
theorem bK_lt (k : Fl) (hf : k.Fit) : ∀ c ∈ bK k, c < 256 := by
  unfold bK
  split
  · unfold bR
    intro c hc
    simp only [List.mem_cons, List.mem_append] at hc
    rcases hc with rfl | rfl | hc | hc | hc | hc
    · exact hf.p
    · split <;> omega
    · exact bytesA_lt _ _ hf.bS c hc
    · exact bytesA_lt _ _ hf.bD c hc
    · exact bg_lt 2 _ c hc
    · exact bg_lt 2 _ c hc
  · intro c hc; cases hc
set_option maxRecDepth 100000 in
theorem k0_fit : k0.Fit := ⟨by decide, rfl, rfl, by decide, by decide, by decide, by decide⟩
set_option maxRecDepth 100000 in
theorem Fl.cs_size (k : Fl) (h : k.Fit) : k.cs.size = 37 := kcells_size _ _ _ _ _ (by rw [cellsA_size, h.lS]) (by rw [cellsA_size, h.lD])
set_option maxRecDepth 100000 in
theorem Fl.cs_all (k : Fl) : k.cs.all (·.oneCell') = true := kcells_all _ _ _ _ _ (cellsA_all _ _) (cellsA_all _ _)
set_option maxRecDepth 100000 in
theorem fcs_fit (zs : List Nat) (hb : ∀ c ∈ zs, c < 256) : ∃ k : Fl, k.Fit ∧ fcs zs = k.cs := by
  unfold fcs
  split
  · rename_i h; exact ⟨_, (fF_ok zs h hb).1, rfl⟩
  · exact ⟨_, k0_fit, rfl⟩
end Go.Proofs.YthkaadcgiplolaaDoor
