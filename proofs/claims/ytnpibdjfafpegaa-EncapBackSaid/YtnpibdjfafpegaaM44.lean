/- Texts that the walks of this seat lean on, put together. -/
import Derived.Test.YtnpibdjfafpegaaTk
import Derived.Test.YtnpibdjfafpegaaM43
namespace Go.Proofs.Ytnpibdjfafpegaa
open Go.RowKit
theorem inn_lt (zs : List Nat) (v : Bool) (O D : List Nat) (hb : ∀ c ∈ zs, c < 256) (hO : ∀ c ∈ O, c < 256) (hD : ∀ c ∈ D, c < 256) : ∀ c ∈ inn zs v O D, c < 256 := by
  intro c hc
  unfold inn at hc
  simp only [List.mem_append] at hc
  rcases hc with (h | h) | h | h
  · exact hb c (List.mem_of_mem_take h)
  · exact bg_lt 2 _ c h
  · exact headB_lt v O D _ _ hO hD (by unfold prN; split <;> decide) c h
  · exact hb c (List.mem_of_mem_drop (List.mem_of_mem_take h))
structure Bt (v : Bool) (tag : Bool) (B : List Nat) (m : Nat) (k : Nat) : Prop where
  rr : rr B = 0
  six : sixF B = v
  n : nN B = hN tag
  e : nE B = m
  len : B.length = m + k
  m : hN tag + hH v + 8 ≤ m
theorem bt (u : Nat) (v udp : Bool) (f : Nat) (data : List Nat) (tag bare : Bool) (R : List Nat) (hl : data.length ≤ 1500) : Bt v tag (fB8 u v udp f data tag bare R) (hN tag + hH v + (hsz (pr udp) + data.length)) R.length := by
  have hT := fB8_told u v udp f data tag bare R hl
  have hV := view9 _ hT.rr
  have h3 := hV.c3
  have h1 := hV.c1
  have h0 := hV.c0
  rw [hT.vw] at h0 h1 h3
  have hz : 8 ≤ hsz (pr udp) := by unfold hsz; split <;> omega
  have h0 : some (Value.bool v) = some (Value.bool (sixF (fB8 u v udp f data tag bare R))) := h0
  have h1 : some (Value.int .i64 ((hN tag : Nat) : Int)) = some (Value.int .i64 (nN (fB8 u v udp f data tag bare R) : Int)) := h1
  have h3 : some (Value.int .i64 ((hN tag + hH v + (hsz (pr udp) + data.length) : Nat) : Int)) = some (Value.int .i64 (nE (fB8 u v udp f data tag bare R) : Int)) := h3
  simp only [Option.some.injEq, Value.int.injEq, Value.bool.injEq, true_and] at h0 h1 h3
  exact ⟨hT.rr, h0.symm, by omega, by omega, hT.len, by omega⟩
theorem prN_or (v : Bool) : prN v = 4 ∨ prN v = 41 := by cases v <;> simp [prN]
set_option maxRecDepth 100000 in
theorem was_rr {zs : List Nat} {v : Bool} {O D F : List Nat} (h : Was zs v O D F) (hO : O.length = 16) (hD : D.length = 16) (hin : inS zs v ≤ 65535) : rr F = 6 := by
  have hq := h.ql
  have hp := prN_or (sixF zs)
  refine rr_of F 6 (by rw [h.net]) ?_ (by omega)
  rw [h.six, h.pk]
  unfold inS at hin
  generalize prN (sixF zs) = p at *
  generalize (pkt zs).take (nE zs - nN zs) = Q at *
  generalize nE zs - nN zs = n at *
  cases v with
  | true =>
    show f6 (mk6 O D p n ++ Q) = 6
    have hl : (mk6 O D p n ++ Q).length = 40 + n := by rw [List.length_append, mk6_length _ _ hO hD, hq]
    unfold f6
    rw [mk6_u2 O D Q p n (by have : hH true = 40 := rfl; omega), hl]
    have e0 : (mk6 O D p n ++ Q).getD 0 0 = 96 := by rw [mk6_cons]; rfl
    have e6 : (mk6 O D p n ++ Q).getD 6 0 = p := by rw [mk6_cons]; rfl
    rw [e0, e6, if_neg (by omega), if_neg (by omega), if_neg (by omega), if_neg (by omega), if_pos (by omega)]
  | false =>
    show ff (mk4 (O.take 4) (D.take 4) p n ++ Q) = 6
    have lO : (O.take 4).length = 4 := by simp [hO]
    have lD : (D.take 4).length = 4 := by simp [hD]
    have hck := mk4_ck (O.take 4) (D.take 4) lO lD p n
    obtain ⟨s0, s1, s2, s3, e1⟩ := list4 (O.take 4) lO
    obtain ⟨d0, d1, d2, d3, e2⟩ := list4 (D.take 4) lD
    obtain ⟨x, y, hm⟩ := mk4_lit s0 s1 s2 s3 d0 d1 d2 d3 p n
    rw [e1, e2, hm] at hck ⊢
    have hl : (([69, 0, (20 + n) / 256 % 256, (20 + n) % 256, 0, 0, 64, 0, 64, p, x, y, s0, s1, s2, s3, d0, d1, d2, d3] : List Nat) ++ Q).length = 20 + n := by rw [List.length_append, hq]; rfl
    have g0 : (([69, 0, (20 + n) / 256 % 256, (20 + n) % 256, 0, 0, 64, 0, 64, p, x, y, s0, s1, s2, s3, d0, d1, d2, d3] : List Nat) ++ Q).getD 0 0 = 69 := rfl
    have g9 : (([69, 0, (20 + n) / 256 % 256, (20 + n) % 256, 0, 0, 64, 0, 64, p, x, y, s0, s1, s2, s3, d0, d1, d2, d3] : List Nat) ++ Q).getD 9 0 = p := rfl
    have g2 : u2 (([69, 0, (20 + n) / 256 % 256, (20 + n) % 256, 0, 0, 64, 0, 64, p, x, y, s0, s1, s2, s3, d0, d1, d2, d3] : List Nat) ++ Q) 2 = 20 + n := by
      show (20 + n) / 256 % 256 * 256 + (20 + n) % 256 = 20 + n
      have : hH false = 20 := rfl
      omega
    have g6 : u2 (([69, 0, (20 + n) / 256 % 256, (20 + n) % 256, 0, 0, 64, 0, 64, p, x, y, s0, s1, s2, s3, d0, d1, d2, d3] : List Nat) ++ Q) 6 = 16384 := rfl
    have gh : hs (([69, 0, (20 + n) / 256 % 256, (20 + n) % 256, 0, 0, 64, 0, 64, p, x, y, s0, s1, s2, s3, d0, d1, d2, d3] : List Nat) ++ Q) = 20 := by unfold Go.Proofs.Ytnpibdjfafpegaa.hs; rw [g0]
    have gt : (([69, 0, (20 + n) / 256 % 256, (20 + n) % 256, 0, 0, 64, 0, 64, p, x, y, s0, s1, s2, s3, d0, d1, d2, d3] : List Nat) ++ Q).take 20 = [69, 0, (20 + n) / 256 % 256, (20 + n) % 256, 0, 0, 64, 0, 64, p, x, y, s0, s1, s2, s3, d0, d1, d2, d3] := rfl
    unfold ff
    rw [gh, gt, hck, hl, g0, g2, g6, g9, if_neg (by omega), if_neg (by omega), if_neg (by omega), if_neg (by omega), if_neg (by omega), if_pos (by omega)]
theorem in_own (x : Value) (zs D : List Nat) (v : Bool) (w : World) (h : Rd w x (nus .u8 zs)) (hb : ∀ c ∈ zs, c < 256) (hz : zs.length ≤ 65535) (hr : rr zs = 0) (hD : D.length = 16) (hbD : ∀ c ∈ D, c < 256) (hvD : vldA v D = true) (hs : inS zs v ≤ 65535) :
    Calls Try.prog 11 #[x, adr false (D16 150), adr true (D16 150), adr v D] w fun e w' => ∃ y, e = .returned (.tuple #[y, .int .i64 0]) ∧ Rd w' y (nus .u8 (inn zs v (D16 150) D)) ∧ Below w.heap.size w w' := by
  have b5 := D16_lt 150 (by decide)
  cases v
  · exact in_ok4 x zs (D16 150) (D16 150) D false true w h hb hz (D16_len _) (D16_len _) hD hr rfl rfl b5 b5 hbD (D16_v _ _) hvD hs
  · exact in_ok6 x zs (D16 150) (D16 150) D false true w h hb hz (D16_len _) (D16_len _) hD hr rfl rfl b5 hbD hvD hs
theorem inS_le (zs : List Nat) (v : Bool) (h : rr zs = 0) : inS zs v ≤ zs.length + 40 := by
  have hF := frame9 zs h
  have h1 := hF.eL
  have h2 : nN zs ≤ nE zs := Nat.le_add_right _ _
  have : hH v ≤ 40 := by unfold hH; split <;> omega
  unfold inS; omega
end Go.Proofs.Ytnpibdjfafpegaa
