/- Texts that the walks of this seat lean on, put together. -/
import Derived.Test.YtnpibdjfafpegaaTk
import Derived.Test.YtnpibdjfafpegaaM08
import Derived.Test.YtnpibdjfafpegaaM09
import Derived.Test.YtnpibdjfafpegaaM10
import Derived.Test.YtnpibdjfafpegaaM11
import Derived.Test.YtnpibdjfafpegaaM12
import Derived.Test.YtnpibdjfafpegaaM13
namespace Go.Proofs.Ytnpibdjfafpegaa
open Go.RowKit
theorem cellsA_head (v : Bool) (bs : List Nat) : (cellsA v bs)[0]? = some (.bool v) := by simp [cellsA]
theorem own_at {w : World} {base n : Nat} {e : TypeId} {v : Value} {xs : List Value} (h : w.ownsRow base e 1 v n xs) (h0 : 0 < n) : ∃ g cap, v = .slice (some ⟨g, 0, none⟩) n cap ∧ n ≤ cap ∧ cap ≤ maxLen ∧ base ≤ g ∧ g < w.heap.size := by
  rcases h.2 with ⟨-, h1⟩ | ⟨g, cap, cur, rfl, hg, h2, hnc, hcm, _⟩
  · omega
  · exact ⟨g, cap, rfl, hnc, hcm, hg, (Array.getElem?_eq_some_iff.1 h2).1⟩
end Go.Proofs.Ytnpibdjfafpegaa
namespace Go.Proofs.Ytnpibdjfafpegaa
open Go.RowKit
theorem own_in {w : World} {base n g cap : Nat} {e : TypeId} {xs : List Value} (h : w.ownsRow base e 1 (.slice (some ⟨g, 0, none⟩) n cap) n xs) : g < w.heap.size := by
  rcases h.2 with ⟨h1, -⟩ | ⟨g', c', cur, hv, -, h2, -⟩
  · cases h1
  · cases hv
    exact (Array.getElem?_eq_some_iff.1 h2).1
def mk0 (s d : List Nat) (p n : Nat) : List Nat := [69, 0] ++ bg 2 (20 + n) ++ [0, 0, 64, 0, 64, p, 0, 0] ++ s ++ d
def mk4 (s d : List Nat) (p n : Nat) : List Nat := ov (mk0 s d p n) (bg 2 (ck (mk0 s d p n))) 10
def mk4Ok (six1 six2 : Bool) (n : Int) : Prop := six1 = false ∧ six2 = false ∧ 0 ≤ n ∧ n ≤ 65515
theorem mk0_steps (s d : List Nat) (hs : s.length = 4) (hd : d.length = 4) (p n : Nat) :
    ov (ov (((putRow (putRow ((List.replicate 20 0).set 0 69) 2 2 (20 + n) 2) 6 2 16384 2).set 8 64).set 9 p) s 12) d 16 = mk0 s d p n := by
  obtain ⟨s0, s1, s2, s3, rfl⟩ : ∃ s0 s1 s2 s3, s = [s0, s1, s2, s3] := by
    match s, hs with
    | [a, b, c, d], _ => exact ⟨a, b, c, d, rfl⟩
  obtain ⟨d0, d1, d2, d3, rfl⟩ : ∃ d0 d1 d2 d3, d = [d0, d1, d2, d3] := by
    match d, hd with
    | [a, b, c, d], _ => exact ⟨a, b, c, d, rfl⟩
  rfl
theorem mk0_length (s d : List Nat) (hs : s.length = 4) (hd : d.length = 4) (p n : Nat) : (mk0 s d p n).length = 20 := by simp [mk0, bg_length, hs, hd]
theorem mk0_lt (s d : List Nat) (p n : Nat) (hs : ∀ c ∈ s, c < 256) (hd : ∀ c ∈ d, c < 256) (hp : p < 256) : ∀ c ∈ mk0 s d p n, c < 256 := by
  intro c hc
  unfold mk0 at hc
  simp only [List.mem_append] at hc
  rcases hc with (((h | h) | h) | h) | h
  · simp at h; omega
  · exact bg_lt 2 _ c h
  · simp at h; omega
  · exact hs c h
  · exact hd c h
end Go.Proofs.Ytnpibdjfafpegaa
namespace Go.Proofs.Ytnpibdjfafpegaa
open Go.RowKit
def mk6 (s d : List Nat) (p n : Nat) : List Nat := [96, 0, 0, 0] ++ bg 2 n ++ [p, 64] ++ s ++ d
def mkOk (six1 six2 : Bool) (n : Int) : Bool := six1 && six2 && decide (0 ≤ n) && decide (n ≤ 65535)
theorem mk6_steps (s d : List Nat) (hs : s.length = 16) (hd : d.length = 16) (p n : Nat) :
    ov (ov (((putRow ((List.replicate 40 0).set 0 96) 4 2 n 2).set 6 p).set 7 64) s 8) d 24 = mk6 s d p n := by
  obtain ⟨s0, s1, s2, s3, s4, s5, s6, s7, s8, s9, s10, s11, s12, s13, s14, s15, rfl⟩ := list16 s hs
  obtain ⟨d0, d1, d2, d3, d4, d5, d6, d7, d8, d9, d10, d11, d12, d13, d14, d15, rfl⟩ := list16 d hd
  rfl
theorem mk6_length (s d : List Nat) (hs : s.length = 16) (hd : d.length = 16) (p n : Nat) : (mk6 s d p n).length = 40 := by simp [mk6, bg_length, hs, hd]
theorem mk6_lt (s d : List Nat) (p n : Nat) (hs : ∀ c ∈ s, c < 256) (hd : ∀ c ∈ d, c < 256) (hp : p < 256) : ∀ c ∈ mk6 s d p n, c < 256 := by
  intro c hc
  unfold mk6 at hc
  simp only [List.mem_append] at hc
  rcases hc with (((h | h) | h) | h) | h
  · simp at h; omega
  · exact bg_lt 2 _ c h
  · simp at h; omega
  · exact hs c h
  · exact hd c h
def mOut (six1 six2 : Bool) (sb db : List Nat) (p : Nat) (n : Int) : List Nat := if mkOk six1 six2 n then mk6 sb db p n.toNat else []
end Go.Proofs.Ytnpibdjfafpegaa
