/- Texts that the walks of this seat lean on, put together: each has its own remark below. -/
import Derived.Test.YtopfbgoiehlhbaaM15

/- A bit that is turned, in a segment or in an address. Nothing of the program. -/
namespace Go.Proofs.Ytopfbgoiehlhbaa
open Go.RowKit

theorem xor_bit (x b : Nat) (hx : x < 256) (hb : b < 8) : x ^^^ 2 ^ b < 256 ∧ (x ^^^ 2 ^ b = x + 2 ^ b ∨ (x ^^^ 2 ^ b) + 2 ^ b = x) := by
  have : ∀ x : Fin 256, ∀ b : Fin 8, x.1 ^^^ 2 ^ b.1 < 256 ∧ (x.1 ^^^ 2 ^ b.1 = x.1 + 2 ^ b.1 ∨ (x.1 ^^^ 2 ^ b.1) + 2 ^ b.1 = x.1) := by decide +kernel
  exact this ⟨x, hx⟩ ⟨b, hb⟩
theorem two_pow (b : Nat) (hb : b < 8) : 1 ≤ 2 ^ b ∧ 2 ^ b ≤ 128 := by
  have : ∀ b : Fin 8, 1 ≤ 2 ^ b.1 ∧ 2 ^ b.1 ≤ 128 := by decide
  exact this ⟨b, hb⟩
/-- A row with one bit turned. -/
def turn (l : List Nat) (i b : Nat) : List Nat := l.set i (l.getD i 0 ^^^ 2 ^ b)
theorem turn_len (l : List Nat) (i b : Nat) : (turn l i b).length = l.length := by simp [turn]
theorem turn_lt (l : List Nat) (i b : Nat) (hl : ∀ c ∈ l, c < 256) (hb : b < 8) : ∀ c ∈ turn l i b, c < 256 := by
  intro c hc
  unfold turn at hc
  rcases List.mem_or_eq_of_mem_set hc with h | rfl
  · exact hl c h
  · exact (xor_bit _ b (getD_lt l hl i) hb).1
theorem turn_wsp (l : List Nat) (i b : Nat) (hl : ∀ c ∈ l, c < 256) (hb : b < 8) (hi : i < l.length) : ∃ d, 1 ≤ d ∧ d ≤ 32768 ∧ (wsp 0 (turn l i b) = wsp 0 l + d ∨ wsp 0 (turn l i b) + d = wsp 0 l) := by
  have h1 := wsp_set l 0 i (l.getD i 0 ^^^ 2 ^ b) hi
  rw [Nat.zero_add] at h1
  obtain ⟨-, hx⟩ := xor_bit (l.getD i 0) b (getD_lt l hl i) hb
  obtain ⟨p1, p2⟩ := two_pow b hb
  have hw : wt i = 256 ∨ wt i = 1 := by unfold wt; split <;> simp
  refine ⟨2 ^ b * wt i, ?_, ?_, ?_⟩
  · rcases hw with e | e <;> rw [e] <;> omega
  · rcases hw with e | e <;> rw [e] <;> omega
  · unfold turn
    generalize l.getD i 0 ^^^ 2 ^ b = y at *
    generalize l.getD i 0 = x at *
    generalize 2 ^ b = q at *
    rcases hx with rfl | rfl
    · left; rw [Nat.add_mul] at h1; omega
    · right; rw [Nat.add_mul] at h1; omega
theorem turn_sum (p : Nat) (zs : List Nat) (v : Bool) (S D : List Nat) (i b : Nat) (hl : ∀ c ∈ zs, c < 256) (hb : b < 8) (hi : i < zs.length) (h : tsum p zs v S D % 65535 = 0) : tsum p (turn zs i b) v S D % 65535 ≠ 0 := by
  obtain ⟨d, d1, d2, hd⟩ := turn_wsp zs i b hl hb hi
  unfold tsum at h ⊢
  rw [turn_len]
  omega
theorem turn_addr (p : Nat) (zs : List Nat) (v : Bool) (S D : List Nat) (i b : Nat) (hl : ∀ c ∈ S, c < 256) (hS : S.length = 16) (hD : D.length = 16) (hb : b < 8) (hi : i < 4) (h : tsum p zs v S D % 65535 = 0) : tsum p zs v (turn S i b) D % 65535 ≠ 0 := by
  have e : bytesA v (turn S i b) = turn (bytesA v S) i b := by
    unfold bytesA turn
    cases v with
    | true => rfl
    | false =>
      show (S.set i _).take 4 = (S.take 4).set i _
      rw [List.take_set, show (if false = true then S else S.take 4) = S.take 4 from rfl, getD_take S 4 i hi]
  have hlen := bytesA_len v S hS
  obtain ⟨d, d1, d2, hd⟩ := turn_wsp (bytesA v S) i b (bytesA_lt v S hl) hb (by rw [hlen]; split <;> omega)
  obtain ⟨r, hr⟩ := psd_wsp v p zs.length
  have h1 := hr S D hS hD
  have h2 := hr (turn S i b) D (by rw [turn_len]; exact hS) hD
  rw [e] at h2
  unfold tsum at h ⊢
  omega
end Go.Proofs.Ytopfbgoiehlhbaa

/- What is wrong with a frame: a reason for each thing. Nothing of the program. -/
namespace Go.Proofs.Ytopfbgoiehlhbaa
open Go.RowKit

theorem xor_0 (y : Nat) (h : y < 256) : bits .xor .u8 (y : Int) 1 = ((y ^^^ 2 ^ 0 : Nat) : Int) := by
  have : ∀ x : Fin 256, bits .xor .u8 ((x.1 : Nat) : Int) 1 = ((x.1 ^^^ 2 ^ 0 : Nat) : Int) := by decide +kernel
  exact this ⟨y, h⟩
/-- The frame of FrameReasons. -/
structure Fr7 (F : List Nat) (x y s0 s1 s2 s3 : Nat) (SG : List Nat) : Prop where
  eq : F = [1, 2, 3, 4, 5, 6, 7, 8, 9, 10, 11, 12, 8, 0] ++ ([69, 0, 0, 43, 0, 0, 64, 0, 64, 6, x, y, s0, s1, s2, s3, 192, 168, 0, 1] ++ SG)
  len : SG.length = 23
  fs : fs 6 SG = 0
  ck : ck [69, 0, 0, 43, 0, 0, 64, 0, 64, 6, x, y, s0, s1, s2, s3, 192, 168, 0, 1] = 0
  lt : ∀ c ∈ F, c < 256
theorem fr7 (u : Nat) : ∃ x y s0 s1 s2 s3 SG, Fr7 (fB8 u false false 0 [97, 98, 99] false false (List.replicate 0 0)) x y s0 s1 s2 s3 SG := by
  have hlt := fB8_lt u false false 0 [97, 98, 99] false false 0 (by omega) (by decide)
  have hn := segB_len 6 (.inl rfl) false (sV u) dV (1000 + u % 50000) 80 0 [97, 98, 99] false
  have h0 := segB_fs 6 (.inl rfl) false (sV u) dV (1000 + u % 50000) 80 0 [97, 98, 99] false (by decide)
  obtain ⟨x, y, e⟩ := mk4_lit 10 (u / 65536 % 256) (u / 256 % 256) (u % 256) 192 168 0 1 6 23
  have hck := mk4_ck [10, u / 65536 % 256, u / 256 % 256, u % 256] [192, 168, 0, 1] rfl rfl 6 23
  rw [e] at hck
  refine ⟨x, y, 10, u / 65536 % 256, u / 256 % 256, u % 256, segB 6 false (sV u) dV (1000 + u % 50000) 80 0 [97, 98, 99] false, ⟨?_, hn, h0, hck, hlt⟩⟩
  show ethB false false ++ (mk4 [10, u / 65536 % 256, u / 256 % 256, u % 256] [192, 168, 0, 1] 6 23 ++ (segB 6 false (sV u) dV (1000 + u % 50000) 80 0 [97, 98, 99] false ++ [])) = _
  rw [e, List.append_nil]
  rfl
variable {F : List Nat} {x y s0 s1 s2 s3 : Nat} {SG : List Nat}
theorem set_left (A B : List Nat) (k v : Nat) (h : k < A.length) : (A ++ B).set k v = A.set k v ++ B := by rw [List.set_append, if_pos h]
theorem set_right (A B : List Nat) (k v : Nat) (h : A.length ≤ k) : (A ++ B).set k v = A ++ B.set (k - A.length) v := by rw [List.set_append, if_neg (by omega)]
theorem fhr_four (X : List Nat) : fhr false X = ff X := rfl
theorem fhr_six (X : List Nat) : fhr true X = f6 X := rfl
theorem fS_four (X : List Nat) : fS false X = hs X := rfl
theorem fL_four (X : List Nat) : fL false X = u2 X 2 := rfl
theorem fP_four (X : List Nat) : fP false X = X.getD 9 0 := rfl
theorem rr_of (Z : List Nat) (r : Nat) (hn : (net Z).2.2 = 0) (h : fhr (sixF Z) (pkt Z) = r) (h0 : r ≠ 0) : rr Z = r := by
  unfold rr; rw [if_neg (fun e => e hn), h, if_pos h0]
theorem net_four (X : List Nat) : net ([1, 2, 3, 4, 5, 6, 7, 8, 9, 10, 11, 12, 8, 0] ++ X) = (14, 2048, 0) := eth_net false false X
theorem six_four (X : List Nat) : sixF ([1, 2, 3, 4, 5, 6, 7, 8, 9, 10, 11, 12, 8, 0] ++ X) = false := eth_six false false X
theorem pkt_four (X : List Nat) : pkt ([1, 2, 3, 4, 5, 6, 7, 8, 9, 10, 11, 12, 8, 0] ++ X) = X := eth_pkt false false X
theorem r_kind (h : Fr7 F x y s0 s1 s2 s3 SG) : rr ((F.set 12 8).set 13 6) = 2 := by
  have e : (F.set 12 8).set 13 6 = [1, 2, 3, 4, 5, 6, 7, 8, 9, 10, 11, 12, 8, 6] ++ ([69, 0, 0, 43, 0, 0, 64, 0, 64, 6, x, y, s0, s1, s2, s3, 192, 168, 0, 1] ++ SG) := by
    rw [h.eq, set_left _ _ _ _ (by simp), set_left _ _ _ _ (by simp)]; rfl
  rw [e]
  generalize [69, 0, 0, 43, 0, 0, 64, 0, 64, 6, x, y, s0, s1, s2, s3, 192, 168, 0, 1] ++ SG = X
  have h12 : u2 ([1, 2, 3, 4, 5, 6, 7, 8, 9, 10, 11, 12, 8, 6] ++ X) 12 = 8 * 256 + 6 := rfl
  have hn : net ([1, 2, 3, 4, 5, 6, 7, 8, 9, 10, 11, 12, 8, 6] ++ X) = (0, 0, 2) := by
    rw [net_bare _ (by rw [List.length_append]; simp) (by rw [h12]; omega), h12, netK_no _ _ (by omega) (by omega)]
  unfold rr; rw [hn]; rfl
theorem r_cut (u k : Nat) (hk : k < 57) : rr ((fB8 u false false 0 [97, 98, 99] false false (List.replicate 0 0)).take k) = 1 :=
  (cut8 false (sV u) dV 6 (1000 + u % 50000) 80 0 [97, 98, 99] false false (List.replicate 0 0) (.inl rfl) (sV_len u) dV_len (by decide) k hk).1
theorem r_vers (h : Fr7 F x y s0 s1 s2 s3 SG) : rr (F.set 14 101) = 3 := by
  have e : F.set 14 101 = [1, 2, 3, 4, 5, 6, 7, 8, 9, 10, 11, 12, 8, 0] ++ ([101, 0, 0, 43, 0, 0, 64, 0, 64, 6, x, y, s0, s1, s2, s3, 192, 168, 0, 1] ++ SG) := by
    rw [h.eq, set_right _ _ _ _ (by simp), set_left _ _ _ _ (by simp)]; rfl
  rw [e]
  refine rr_of _ 3 (by rw [net_four]) ?_ (by omega)
  rw [six_four, pkt_four]
  rw [fhr_four]
  have g0 : ([101, 0, 0, 43, 0, 0, 64, 0, 64, 6, x, y, s0, s1, s2, s3, 192, 168, 0, 1] ++ SG).getD 0 0 = 101 := rfl
  unfold ff
  rw [g0, if_neg (by rw [List.length_append]; simp), if_pos (.inl (by omega))]
/-- A header of which one bit of the checksum is turned. -/
theorem ff_turned (h : Fr7 F x y s0 s1 s2 s3 SG) (S2 : List Nat) (hl : S2.length = 23) (_hx : x < 256) : ff ([69, 0, 0, 43, 0, 0, 64, 0, 64, 6, x ^^^ 2 ^ 0, y, s0, s1, s2, s3, 192, 168, 0, 1] ++ S2) = 4 := by
  have hH : ∀ c ∈ [69, 0, 0, 43, 0, 0, 64, 0, 64, 6, x, y, s0, s1, s2, s3, 192, 168, 0, 1], c < 256 := fun c hc => h.lt c (by rw [h.eq]; exact List.mem_append_right _ (List.mem_append_left _ hc))
  obtain ⟨d, d1, d2, hd⟩ := turn_wsp _ 10 0 hH (by omega) (by simp)
  rw [show turn [69, 0, 0, 43, 0, 0, 64, 0, 64, 6, x, y, s0, s1, s2, s3, 192, 168, 0, 1] 10 0 = [69, 0, 0, 43, 0, 0, 64, 0, 64, 6, x ^^^ 2 ^ 0, y, s0, s1, s2, s3, 192, 168, 0, 1] from rfl] at hd
  have hck := (ck_zero _).1 h.ck
  have hck2 : ck [69, 0, 0, 43, 0, 0, 64, 0, 64, 6, x ^^^ 2 ^ 0, y, s0, s1, s2, s3, 192, 168, 0, 1] ≠ 0 := fun e => by
    have := (ck_zero _).1 e
    omega
  generalize x ^^^ 2 ^ 0 = z at *
  have e0 : ([69, 0, 0, 43, 0, 0, 64, 0, 64, 6, z, y, s0, s1, s2, s3, 192, 168, 0, 1] ++ S2).length = 43 := by rw [List.length_append, hl]; rfl
  have e2 : u2 ([69, 0, 0, 43, 0, 0, 64, 0, 64, 6, z, y, s0, s1, s2, s3, 192, 168, 0, 1] ++ S2) 2 = 43 := (show u2 ([69, 0, 0, 43, 0, 0, 64, 0, 64, 6, z, y, s0, s1, s2, s3, 192, 168, 0, 1] ++ S2) 2 = 0 * 256 + 43 from rfl).trans (by omega)
  have eh : hs ([69, 0, 0, 43, 0, 0, 64, 0, 64, 6, z, y, s0, s1, s2, s3, 192, 168, 0, 1] ++ S2) = 20 := (show hs ([69, 0, 0, 43, 0, 0, 64, 0, 64, 6, z, y, s0, s1, s2, s3, 192, 168, 0, 1] ++ S2) = 4 * (69 % 16) from rfl).trans (by omega)
  have et : ([69, 0, 0, 43, 0, 0, 64, 0, 64, 6, z, y, s0, s1, s2, s3, 192, 168, 0, 1] ++ S2).take 20 = [69, 0, 0, 43, 0, 0, 64, 0, 64, 6, z, y, s0, s1, s2, s3, 192, 168, 0, 1] := rfl
  have g0 : ([69, 0, 0, 43, 0, 0, 64, 0, 64, 6, z, y, s0, s1, s2, s3, 192, 168, 0, 1] ++ S2).getD 0 0 = 69 := rfl
  unfold ff
  rw [e0, e2, eh, et, g0, if_neg (by omega), if_neg (by omega), if_neg (by omega), if_pos hck2]
theorem x_lt (h : Fr7 F x y s0 s1 s2 s3 SG) : x < 256 ∧ F.getD 24 0 = x := by
  refine ⟨h.lt x ?_, by rw [h.eq]; rfl⟩
  rw [h.eq]; simp
theorem r_sum (h : Fr7 F x y s0 s1 s2 s3 SG) : rr (F.set 24 (x ^^^ 2 ^ 0)) = 4 := by
  have e : F.set 24 (x ^^^ 2 ^ 0) = [1, 2, 3, 4, 5, 6, 7, 8, 9, 10, 11, 12, 8, 0] ++ ([69, 0, 0, 43, 0, 0, 64, 0, 64, 6, x ^^^ 2 ^ 0, y, s0, s1, s2, s3, 192, 168, 0, 1] ++ SG) := by
    generalize x ^^^ 2 ^ 0 = z
    rw [h.eq, set_right _ _ _ _ (by simp), set_left _ _ _ _ (by simp)]; rfl
  rw [e]
  refine rr_of _ 4 (by rw [net_four]) ?_ (by omega)
  rw [six_four, pkt_four]
  rw [fhr_four]
  exact ff_turned h SG h.len (x_lt h).1
theorem r_both (h : Fr7 F x y s0 s1 s2 s3 SG) : rr ((F.set 24 (x ^^^ 2 ^ 0)).set 46 64) = 4 := by
  have e : (F.set 24 (x ^^^ 2 ^ 0)).set 46 64 = [1, 2, 3, 4, 5, 6, 7, 8, 9, 10, 11, 12, 8, 0] ++ ([69, 0, 0, 43, 0, 0, 64, 0, 64, 6, x ^^^ 2 ^ 0, y, s0, s1, s2, s3, 192, 168, 0, 1] ++ SG.set 12 64) := by
    have e1 : F.set 24 (x ^^^ 2 ^ 0) = [1, 2, 3, 4, 5, 6, 7, 8, 9, 10, 11, 12, 8, 0] ++ ([69, 0, 0, 43, 0, 0, 64, 0, 64, 6, x ^^^ 2 ^ 0, y, s0, s1, s2, s3, 192, 168, 0, 1] ++ SG) := by
      generalize x ^^^ 2 ^ 0 = z
      rw [h.eq, set_right _ _ _ _ (by simp), set_left _ _ _ _ (by simp)]; rfl
    rw [e1, set_right _ _ _ _ (by simp), set_right _ _ _ _ (by simp)]; rfl
  rw [e]
  refine rr_of _ 4 (by rw [net_four]) ?_ (by omega)
  rw [six_four, pkt_four]
  rw [fhr_four]
  exact ff_turned h _ (by rw [List.length_set, h.len]) (x_lt h).1
theorem r_seg (h : Fr7 F x y s0 s1 s2 s3 SG) : rr (F.set 46 64) = 3 := by
  have e : F.set 46 64 = [1, 2, 3, 4, 5, 6, 7, 8, 9, 10, 11, 12, 8, 0] ++ ([69, 0, 0, 43, 0, 0, 64, 0, 64, 6, x, y, s0, s1, s2, s3, 192, 168, 0, 1] ++ SG.set 12 64) := by
    rw [h.eq, set_right _ _ _ _ (by simp), set_right _ _ _ _ (by simp)]; rfl
  rw [e]
  have hl : (SG.set 12 64).length = 23 := by rw [List.length_set, h.len]
  have h12 : (SG.set 12 64).getD 12 0 = 64 := by
    rw [List.getD_eq_getElem?_getD, List.getElem?_set]; simp [h.len]
  have hck := h.ck
  generalize SG.set 12 64 = S2 at *
  have e0 : ([69, 0, 0, 43, 0, 0, 64, 0, 64, 6, x, y, s0, s1, s2, s3, 192, 168, 0, 1] ++ S2).length = 43 := by rw [List.length_append, hl]; rfl
  have e2 : u2 ([69, 0, 0, 43, 0, 0, 64, 0, 64, 6, x, y, s0, s1, s2, s3, 192, 168, 0, 1] ++ S2) 2 = 43 := (show u2 ([69, 0, 0, 43, 0, 0, 64, 0, 64, 6, x, y, s0, s1, s2, s3, 192, 168, 0, 1] ++ S2) 2 = 0 * 256 + 43 from rfl).trans (by omega)
  have e6 : u2 ([69, 0, 0, 43, 0, 0, 64, 0, 64, 6, x, y, s0, s1, s2, s3, 192, 168, 0, 1] ++ S2) 6 = 64 * 256 + 0 := rfl
  have eh : hs ([69, 0, 0, 43, 0, 0, 64, 0, 64, 6, x, y, s0, s1, s2, s3, 192, 168, 0, 1] ++ S2) = 20 := (show hs ([69, 0, 0, 43, 0, 0, 64, 0, 64, 6, x, y, s0, s1, s2, s3, 192, 168, 0, 1] ++ S2) = 4 * (69 % 16) from rfl).trans (by omega)
  have et : ([69, 0, 0, 43, 0, 0, 64, 0, 64, 6, x, y, s0, s1, s2, s3, 192, 168, 0, 1] ++ S2).take 20 = [69, 0, 0, 43, 0, 0, 64, 0, 64, 6, x, y, s0, s1, s2, s3, 192, 168, 0, 1] := rfl
  have hff : ff ([69, 0, 0, 43, 0, 0, 64, 0, 64, 6, x, y, s0, s1, s2, s3, 192, 168, 0, 1] ++ S2) = 0 := by
    have g0 : ([69, 0, 0, 43, 0, 0, 64, 0, 64, 6, x, y, s0, s1, s2, s3, 192, 168, 0, 1] ++ S2).getD 0 0 = 69 := rfl
    have g9 : ([69, 0, 0, 43, 0, 0, 64, 0, 64, 6, x, y, s0, s1, s2, s3, 192, 168, 0, 1] ++ S2).getD 9 0 = 6 := rfl
    unfold ff
    rw [e0, e2, e6, eh, et, g0, g9, if_neg (by omega), if_neg (by omega), if_neg (by omega), if_neg (fun e => e hck), if_neg (by omega), if_neg (by omega)]
  have hsg : sgm ([1, 2, 3, 4, 5, 6, 7, 8, 9, 10, 11, 12, 8, 0] ++ ([69, 0, 0, 43, 0, 0, 64, 0, 64, 6, x, y, s0, s1, s2, s3, 192, 168, 0, 1] ++ S2)) = S2 := by
    unfold sgm
    rw [six_four, pkt_four, net_four]
    rw [fS_four, fL_four, eh, e2]
    rw [← List.append_assoc, drop_app _ _ _ (by simp)]
    exact List.take_of_length_le (by omega)
  have hfs : fs 6 S2 = 3 := by
    unfold fs tz
    rw [if_pos rfl, if_neg (by omega), h12, if_pos (.inl (by omega))]
  unfold rr
  rw [six_four, pkt_four, net_four, hsg]
  have g9 : ([69, 0, 0, 43, 0, 0, 64, 0, 64, 6, x, y, s0, s1, s2, s3, 192, 168, 0, 1] ++ S2).getD 9 0 = 6 := rfl
  rw [if_neg (fun e => e rfl), fhr_four, hff, if_neg (fun e => e rfl), fP_four, g9]
  exact hfs
theorem r_six (h : Fr7 F x y s0 s1 s2 s3 SG) : rr (((F.set 12 134).set 13 221).set 14 69) = 3 := by
  have e : ((F.set 12 134).set 13 221).set 14 69 = [1, 2, 3, 4, 5, 6, 7, 8, 9, 10, 11, 12, 134, 221] ++ ([69, 0, 0, 43, 0, 0, 64, 0, 64, 6, x, y, s0, s1, s2, s3, 192, 168, 0, 1] ++ SG) := by
    rw [h.eq, set_left _ _ _ _ (by simp), set_left _ _ _ _ (by simp), set_right _ _ _ _ (by simp), set_left _ _ _ _ (by simp)]; rfl
  rw [e]
  have e0 : ([69, 0, 0, 43, 0, 0, 64, 0, 64, 6, x, y, s0, s1, s2, s3, 192, 168, 0, 1] ++ SG).length = 43 := by rw [List.length_append, h.len]; rfl
  have g0 : ([69, 0, 0, 43, 0, 0, 64, 0, 64, 6, x, y, s0, s1, s2, s3, 192, 168, 0, 1] ++ SG).getD 0 0 = 69 := rfl
  generalize [69, 0, 0, 43, 0, 0, 64, 0, 64, 6, x, y, s0, s1, s2, s3, 192, 168, 0, 1] ++ SG = X at *
  refine rr_of _ 3 (by rw [show net ([1, 2, 3, 4, 5, 6, 7, 8, 9, 10, 11, 12, 134, 221] ++ X) = (14, 34525, 0) from eth_net false true X]) ?_ (by omega)
  rw [show sixF ([1, 2, 3, 4, 5, 6, 7, 8, 9, 10, 11, 12, 134, 221] ++ X) = true from eth_six false true X, show pkt ([1, 2, 3, 4, 5, 6, 7, 8, 9, 10, 11, 12, 134, 221] ++ X) = X from eth_pkt false true X]
  rw [fhr_six]
  unfold f6
  rw [e0, g0, if_neg (by omega), if_pos (by omega)]
end Go.Proofs.Ytopfbgoiehlhbaa

