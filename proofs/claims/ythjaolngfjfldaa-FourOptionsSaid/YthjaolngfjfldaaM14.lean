/- Texts that the walks of this seat lean on, put together: each has its own remark below. -/
import Derived.Test.YthjaolngfjfldaaM05
import Derived.Test.YthjaolngfjfldaaM09
import Derived.Test.YthjaolngfjfldaaM11

/- Headers with options: they are read. Nothing of the program. -/
namespace Go.Proofs.Ythjaolngfjfldaa
open Go.RowKit

/-- A header with options: so many words of them; its checksum's bytes. -/
def oh (v l2 l3 x y s1 s2 s3 : Nat) : List Nat := [69 + v, 0, l2, l3, 0, 0, 64, 0, 64, 6, x, y, 10, s1, s2, s3, 192, 168, 0, 1]
theorem oh_len (v l2 l3 x y s1 s2 s3 : Nat) : (oh v l2 l3 x y s1 s2 s3).length = 20 := rfl
theorem oh_lt (v l2 l3 x y s1 s2 s3 : Nat) (a : v ≤ 10) (b : l2 < 256) (c : l3 < 256) (e : x < 256) (g : y < 256) (i : s1 < 256) (j : s2 < 256) (k : s3 < 256) : ∀ c ∈ oh v l2 l3 x y s1 s2 s3, c < 256 := by
  unfold oh; simp only [List.mem_cons, List.not_mem_nil, or_false]; rintro c hc; rcases hc with rfl | rfl | rfl | rfl | rfl | rfl | rfl | rfl | rfl | rfl | rfl | rfl | rfl | rfl | rfl | rfl | rfl | rfl | rfl | rfl <;> omega
theorem oh_mk (u n : Nat) (hn : n ≤ 65515) : ∃ x y, x < 256 ∧ y < 256 ∧ mk4 (kS u) kD 6 n = oh 0 ((20 + n) / 256) ((20 + n) % 256) x y (u / 65536 % 256) (u / 256 % 256) (u % 256) := by
  refine ⟨ck (mk0 (kS u) kD 6 n) / 256 % 256, ck (mk0 (kS u) kD 6 n) % 256, by omega, by omega, ?_⟩
  have e : (20 + n) / 256 % 256 = (20 + n) / 256 := by omega
  have h : mk4 (kS u) kD 6 n = oh 0 ((20 + n) / 256 % 256) ((20 + n) % 256) (ck (mk0 (kS u) kD 6 n) / 256 % 256) (ck (mk0 (kS u) kD 6 n) % 256) (u / 65536 % 256) (u / 256 % 256) (u % 256) := rfl
  rw [h, e]
theorem oh_set0 (v x y l2 l3 s1 s2 s3 : Nat) : (oh 0 l2 l3 x y s1 s2 s3).set 0 (69 + v) = oh v l2 l3 x y s1 s2 s3 := rfl
section
variable (v l2 l3 s1 s2 s3 L : Nat) (data : List Nat)
/-- The whole header, its checksum's bytes as they are. -/
def oH (x y : Nat) : List Nat := oh v l2 l3 x y s1 s2 s3 ++ List.replicate (4 * v) 1
theorem oH_len (x y : Nat) : (oH v l2 l3 s1 s2 s3 x y).length = 20 + 4 * v := by simp [oH, oh_len]
theorem oH_set (x y a b : Nat) : ((oH v l2 l3 s1 s2 s3 x y).set 10 a).set 11 b = oH v l2 l3 s1 s2 s3 a b := rfl
theorem oH_lt (x y : Nat) (a : v ≤ 10) (b : l2 < 256) (c : l3 < 256) (e : x < 256) (g : y < 256) (i : s1 < 256) (j : s2 < 256) (k : s3 < 256) : ∀ c ∈ oH v l2 l3 s1 s2 s3 x y, c < 256 := by
  intro c' hc
  rcases List.mem_append.1 hc with h | h
  · exact oh_lt v l2 l3 x y s1 s2 s3 a b c e g i j k c' h
  · have := (List.mem_replicate.1 h).2; omega
theorem oH_ck (c : Nat) (hc : c = ck (oH v l2 l3 s1 s2 s3 0 0)) : ck (oH v l2 l3 s1 s2 s3 (c / 256) (c % 256)) = 0 := by
  have h1 := ck_put (oH v l2 l3 s1 s2 s3 0 0) (by rw [oH_len]; omega) (by show 0 < 69 + v; omega) (by simp [u2, oH, oh])
  rw [← hc] at h1
  have hl : c < 65536 := by have := ck_le (oH v l2 l3 s1 s2 s3 0 0); omega
  have e2 : ov (oH v l2 l3 s1 s2 s3 0 0) (bg 2 c) 10 = oH v l2 l3 s1 s2 s3 (c / 256) (c % 256) := by
    have eb : bg 2 c = [c / 256, c % 256] := by
      have a1 : c / 256 % 256 = c / 256 := by omega
      simp [bg, a1]
    rw [eb]; rfl
  rw [e2] at h1
  exact h1
theorem oH_read (x y : Nat) (B : List Nat) (hB : B = oH v l2 l3 s1 s2 s3 x y ++ data) (hv : v ≤ 10) (hd1 : data.length = L) (hl : l2 * 256 + l3 = 20 + 4 * v + L) (hck : ck (oH v l2 l3 s1 s2 s3 x y) = 0) :
    ff B = 0 ∧ hs B = 20 + 4 * v ∧ u2 B 2 = 20 + 4 * v + L ∧ B.length = 20 + 4 * v + L ∧ B.getD 9 0 = 6 := by
  have zl : B.length = 20 + 4 * v + L := by rw [hB, List.length_append, oH_len, hd1]
  have e1 : ∀ i, i < 20 → B.getD i 0 = (oh v l2 l3 x y s1 s2 s3).getD i 0 := fun i hi => by
    have hi2 : i < (oh v l2 l3 x y s1 s2 s3).length := by rw [oh_len]; exact hi
    rw [hB, List.getD_eq_getElem?_getD, List.getElem?_append_left (by rw [oH_len]; omega), oH, List.getElem?_append_left hi2, ← List.getD_eq_getElem?_getD]
  have g0 : B.getD 0 0 = 69 + v := e1 0 (by omega)
  have g2 : B.getD 2 0 = l2 := e1 2 (by omega)
  have g3 : B.getD 3 0 = l3 := e1 3 (by omega)
  have g6 : B.getD 6 0 = 64 := e1 6 (by omega)
  have g7 : B.getD 7 0 = 0 := e1 7 (by omega)
  have g9 : B.getD 9 0 = 6 := e1 9 (by omega)
  have es : hs B = 20 + 4 * v := by unfold hs; rw [g0]; omega
  have e2 : u2 B 2 = 20 + 4 * v + L := by unfold u2; rw [g2, g3]; exact hl
  have e6 : u2 B 6 = 16384 := by unfold u2; rw [g6, g7]
  have ht : B.take (20 + 4 * v) = oH v l2 l3 s1 s2 s3 x y := by rw [hB]; exact List.take_left' (oH_len v l2 l3 s1 s2 s3 x y)
  refine ⟨?_, es, e2, zl, g9⟩
  unfold ff
  rw [es, e2, zl, ht, hck, e6, g0, g9, if_neg (by omega), if_neg (by omega), if_neg (by omega), if_neg (by omega), if_neg (by omega), if_neg (by omega)]
end
end Go.Proofs.Ythjaolngfjfldaa

