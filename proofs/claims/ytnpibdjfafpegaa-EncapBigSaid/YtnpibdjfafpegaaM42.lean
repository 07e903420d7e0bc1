/- Texts that the walks of this seat lean on, put together. -/
import Derived.Test.YtnpibdjfafpegaaTk
import Derived.Test.YtnpibdjfafpegaaM41
namespace Go.Proofs.Ytnpibdjfafpegaa
open Go.RowKit
theorem inn_lt (zs : List Nat) (v : Bool) (O D : List Nat) (hb : ∀ c ∈ zs, c < 256) (hO : ∀ c ∈ O, c < 256) (hD : ∀ c ∈ D, c < 256) : ∀ c ∈ inn zs v O D, c < 256 := by
  intro c hc
  unfold inn at hc
  simp only [List.mem_append] at hc
  rcases hc with (h | h) | h | h
  · exact hb c (List.mem_of_mem_take h)
  · exact bg_lt 2 _ c h
  · exact headB_lt v O D _ _ hO hD (by unfold prN; split <;> decide) c h
  · exact hb c (List.mem_of_mem_drop (List.mem_of_mem_take h))
structure Bt (v : Bool) (tag : Bool) (B : List Nat) (m : Nat) (k : Nat) : Prop where
  rr : rr B = 0
  six : sixF B = v
  n : nN B = hN tag
  e : nE B = m
  len : B.length = m + k
  m : hN tag + hH v + 8 ≤ m
theorem bt (u : Nat) (v udp : Bool) (f : Nat) (data : List Nat) (tag bare : Bool) (R : List Nat) (hl : data.length ≤ 1500) : Bt v tag (fB8 u v udp f data tag bare R) (hN tag + hH v + (hsz (pr udp) + data.length)) R.length := by
  have hT := fB8_told u v udp f data tag bare R hl
  have hV := view9 _ hT.rr
  have h3 := hV.c3
  have h1 := hV.c1
  have h0 := hV.c0
  rw [hT.vw] at h0 h1 h3
  have hz : 8 ≤ hsz (pr udp) := by unfold hsz; split <;> omega
  have h0 : some (Value.bool v) = some (Value.bool (sixF (fB8 u v udp f data tag bare R))) := h0
  have h1 : some (Value.int .i64 ((hN tag : Nat) : Int)) = some (Value.int .i64 (nN (fB8 u v udp f data tag bare R) : Int)) := h1
  have h3 : some (Value.int .i64 ((hN tag + hH v + (hsz (pr udp) + data.length) : Nat) : Int)) = some (Value.int .i64 (nE (fB8 u v udp f data tag bare R) : Int)) := h3
  simp only [Option.some.injEq, Value.int.injEq, Value.bool.injEq, true_and] at h0 h1 h3
  exact ⟨hT.rr, h0.symm, by omega, by omega, hT.len, by omega⟩
theorem in_own (x : Value) (zs D : List Nat) (v : Bool) (w : World) (h : Rd w x (nus .u8 zs)) (hb : ∀ c ∈ zs, c < 256) (hz : zs.length ≤ 65535) (hr : rr zs = 0) (hD : D.length = 16) (hbD : ∀ c ∈ D, c < 256) (hvD : vldA v D = true) (hs : inS zs v ≤ 65535) :
    Calls Try.prog 11 #[x, adr false (D16 150), adr true (D16 150), adr v D] w fun e w' => ∃ y, e = .returned (.tuple #[y, .int .i64 0]) ∧ Rd w' y (nus .u8 (inn zs v (D16 150) D)) ∧ Below w.heap.size w w' := by
  have b5 := D16_lt 150 (by decide)
  cases v
  · exact in_ok4 x zs (D16 150) (D16 150) D false true w h hb hz (D16_len _) (D16_len _) hD hr rfl rfl b5 b5 hbD (D16_v _ _) hvD hs
  · exact in_ok6 x zs (D16 150) (D16 150) D false true w h hb hz (D16_len _) (D16_len _) hD hr rfl rfl b5 hbD hvD hs
theorem in_own_big (x : Value) (zs D : List Nat) (v : Bool) (w : World) (h : Rd w x (nus .u8 zs)) (hb : ∀ c ∈ zs, c < 256) (hz : zs.length ≤ 65535) (hr : rr zs = 0) (hD : D.length = 16) (hbD : ∀ c ∈ D, c < 256) (hvD : vldA v D = true) (hs : 65535 < inS zs v) :
    Calls Try.prog 11 #[x, adr false (D16 150), adr true (D16 150), adr v D] w fun e w' => e = .returned (.tuple #[.slice none 0 0, .int .i64 9]) ∧ Below w.heap.size w w' := by
  have b5 := D16_lt 150 (by decide)
  cases v
  · exact in_big4 x zs (D16 150) (D16 150) D false true w h hb hz (D16_len _) (D16_len _) hD hr rfl rfl b5 b5 hbD (D16_v _ _) hvD hs
  · exact in_big6 x zs (D16 150) (D16 150) D false true w h hb hz (D16_len _) (D16_len _) hD hr rfl rfl b5 hbD hvD hs
theorem inS_le (zs : List Nat) (v : Bool) (h : rr zs = 0) : inS zs v ≤ zs.length + 40 := by
  have hF := frame9 zs h
  have h1 := hF.eL
  have h2 : nN zs ≤ nE zs := Nat.le_add_right _ _
  have : hH v ≤ 40 := by unfold hH; split <;> omega
  unfold inS; omega
end Go.Proofs.Ytnpibdjfafpegaa
