/- Texts that the walks of this seat lean on, put together: each has its own remark below. -/
import Derived.Test.YthjaolngfjfldaaM02
import Derived.Test.YthjaolngfjfldaaM03
import Derived.Test.YthjaolngfjfldaaM04

/- A header with its checksum put to it is right; where one bit of the checksum is turned it is not. Nothing of the program. -/
namespace Go.Proofs.Ythjaolngfjfldaa
open Go.RowKit

theorem gr_full (u : Nat) : gr u = 65535 ↔ u ≠ 0 ∧ u % 65535 = 0 := by unfold gr; split <;> omega
theorem ck_zero (b : List Nat) : ck b = 0 ↔ wsp 0 b ≠ 0 ∧ wsp 0 b % 65535 = 0 := by
  rw [← gr_full]
  have := gr_le (wsp 0 b)
  unfold ck
  omega
theorem wsp_first (b : List Nat) (h : 0 < b.length) (h0 : 0 < b.getD 0 0) : wsp 0 b ≠ 0 := by
  cases b with
  | nil => cases h
  | cons x r =>
    have : 0 < x := by simpa using h0
    simp only [wsp]
    rw [wt_even 0 rfl]
    omega
/-- The checksum of a row whose own checksum is 0, put to it: the whole is right. -/
theorem ck_put (H : List Nat) (h20 : 12 ≤ H.length) (h0 : 0 < H.getD 0 0) (hz : u2 H 10 = 0) : ck (ov H (bg 2 (ck H)) 10) = 0 := by
  have hl := bg_length 2 (ck H)
  have h1 := ov_wsp H (bg 2 (ck H)) 10 rfl (by rw [hl]; omega) (by rw [hl])
  rw [hl, wsp_two_at H 10 (by omega), hz, wsp_bg _ (by have := ck_le H; omega)] at h1
  have h2 := ck_mod H
  rw [ck_zero]
  refine ⟨wsp_first _ (by rw [ov_length _ _ _ (by rw [hl]; omega)]; omega) (by rw [ov_get_off _ _ _ _ (by rw [hl]; omega) (by omega)]; exact h0), ?_⟩
  omega
/-- With another checksum it is not. -/
theorem ck_other (H : List Nat) (h20 : 12 ≤ H.length) (hc : ck H = 0) (v : Nat) (hv : v < 65536) (h : v % 65535 ≠ u2 H 10 % 65535) : ck (ov H (bg 2 v) 10) ≠ 0 := by
  have hl := bg_length 2 v
  have h1 := ov_wsp H (bg 2 v) 10 rfl (by rw [hl]; omega) (by rw [hl])
  rw [hl, wsp_two_at H 10 (by omega), wsp_bg _ hv] at h1
  rw [ck_zero] at hc
  intro e
  rw [ck_zero] at e
  omega
end Go.Proofs.Ythjaolngfjfldaa

/- The packet with another destination: what stays, and that it can be taken. Nothing of the program. -/
namespace Go.Proofs.Ythjaolngfjfldaa
open Go.RowKit

section
variable {zs t : List Nat} (h : ff zs = 0) (ht : t.length = 4)
include h ht
theorem dst_facts : 20 ≤ zs.length ∧ 10 + (bg 2 (chA (u2 zs 10) ((zs.drop 16).take 4) t)).length ≤ zs.length ∧ 16 + t.length ≤ (ov zs (bg 2 (chA (u2 zs 10) ((zs.drop 16).take 4) t)) 10).length := by
  obtain ⟨h20, -⟩ := ff_yes zs h
  have hl : 10 + (bg 2 (chA (u2 zs 10) ((zs.drop 16).take 4) t)).length ≤ zs.length := by rw [bg_length]; omega
  exact ⟨h20, hl, by rw [ov_length _ _ _ hl]; omega⟩
theorem dst_length : (dst4 zs t).length = zs.length := by
  obtain ⟨_, h1, h2⟩ := dst_facts h ht
  unfold dst4
  rw [ov_length _ _ _ h2, ov_length _ _ _ h1]
theorem dst_get (i : Nat) (hi : i < 10 ∨ (12 ≤ i ∧ i < 16) ∨ 20 ≤ i) : (dst4 zs t).getD i 0 = zs.getD i 0 := by
  obtain ⟨_, h1, h2⟩ := dst_facts h ht
  unfold dst4
  rw [ov_get_off _ _ _ _ h2 (by omega), ov_get_off _ _ _ _ h1 (by rw [bg_length]; omega)]
theorem dst_take (n : Nat) (hn : n ≤ 10) : (dst4 zs t).take n = zs.take n := by
  obtain ⟨_, h1, h2⟩ := dst_facts h ht
  unfold dst4
  rw [ov_take_off _ _ _ _ (by omega) h2, ov_take_off _ _ _ _ hn h1]
theorem dst_drop (n : Nat) (hn : 20 ≤ n) : (dst4 zs t).drop n = zs.drop n := by
  obtain ⟨_, h1, h2⟩ := dst_facts h ht
  unfold dst4
  rw [ov_drop_off _ _ _ _ (by omega) h2, ov_drop_off _ _ _ _ (by rw [bg_length]; omega) h1]
theorem dst_src : ((dst4 zs t).drop 12).take 4 = (zs.drop 12).take 4 := by
  obtain ⟨_, h1, h2⟩ := dst_facts h ht
  unfold dst4
  rw [mid_off _ _ _ _ _ h2 (by omega), mid_off _ _ _ _ _ h1 (by rw [bg_length]; omega)]
theorem dst_dst : ((dst4 zs t).drop 16).take 4 = t := by
  obtain ⟨_, h1, h2⟩ := dst_facts h ht
  unfold dst4
  have := ov_mid (ov zs (bg 2 (chA (u2 zs 10) ((zs.drop 16).take 4) t)) 10) t 16 h2
  rwa [ht] at this
omit h ht in
theorem dst_lt (hb : ∀ c ∈ zs, c < 256) (htb : ∀ c ∈ t, c < 256) : ∀ c ∈ dst4 zs t, c < 256 := ov_lt _ _ _ (ov_lt _ _ _ hb (bg_lt _ _)) htb
/-- P5.3: what goes to another destination is read with no reason. -/
theorem dst_ff (hb : ∀ c ∈ zs, c < 256) : ff (dst4 zs t) = 0 := by
  obtain ⟨h20, hv, hs1, hs2, hs3, hc, hf, hp⟩ := ff_yes zs h
  have hs60 := hs_lt zs
  have g0 := dst_get h ht 0 (by omega)
  have g9 := dst_get h ht 9 (by omega)
  have e2 : u2 (dst4 zs t) 2 = u2 zs 2 := by unfold u2; rw [dst_get h ht 2 (by omega), dst_get h ht 3 (by omega)]
  have e6 : u2 (dst4 zs t) 6 = u2 zs 6 := by unfold u2; rw [dst_get h ht 6 (by omega), dst_get h ht 7 (by omega)]
  have es : hs (dst4 zs t) = hs zs := by unfold hs; rw [g0]
  have el := dst_length h ht
  have hck : ck ((dst4 zs t).take (hs zs)) = 0 := by
    obtain ⟨_, h1, h2⟩ := dst_facts h ht
    obtain ⟨s, hse⟩ : ∃ s, s = hs zs := ⟨_, rfl⟩
    have hse2 : s % 2 = 0 := by rw [hse]; unfold hs; omega
    rw [← hse] at hc hs1 ⊢
    have hsl : s ≤ zs.length := by omega
    have h2' := h2
    rw [ov_length _ _ _ h1] at h2'
    have et : (dst4 zs t).take s = ov (ov (zs.take s) (bg 2 (chA (u2 zs 10) ((zs.drop 16).take 4) t)) 10) t 16 := by
      unfold dst4
      rw [ov_take _ _ _ _ (by omega) (by rw [ov_length _ _ _ h1]; exact hsl), ov_take _ _ _ _ (by rw [bg_length]; omega) hsl]
    have zl : (zs.take s).length = s := by simp; omega
    have hV := chA_lt (u2 zs 10) ((zs.drop 16).take 4) t (u2_lt zs 10 hb)
    have ol : ((zs.drop 16).take 4).length = 4 := by simp; omega
    have w1 := ov_wsp (zs.take s) (bg 2 (chA (u2 zs 10) ((zs.drop 16).take 4) t)) 10 rfl (by rw [bg_length]; omega) (by rw [bg_length])
    rw [bg_length, wsp_two_at _ _ (by omega), u2_take _ _ _ (by omega), wsp_bg _ hV] at w1
    have w2 := ov_wsp (ov (zs.take s) (bg 2 (chA (u2 zs 10) ((zs.drop 16).take 4) t)) 10) t 16 rfl (by rw [ov_length _ _ _ (by rw [bg_length]; omega)]; omega) (by omega)
    have em : ((ov (zs.take s) (bg 2 (chA (u2 zs 10) ((zs.drop 16).take 4) t)) 10).drop 16).take t.length = (zs.drop 16).take 4 := by
      rw [ht, mid_off _ _ _ _ _ (by rw [bg_length]; omega) (by rw [bg_length]; omega), List.drop_take, List.take_take, Nat.min_eq_left (by omega)]
    rw [em] at w2
    have hm := chg_mod (u2 zs 10) ((zs.drop 16).take 4) t (by have := u2_lt zs 10 hb; omega) (fun c hc => hb c (List.mem_of_mem_drop (List.mem_of_mem_take hc))) 2 (by omega) (by omega)
    rw [List.take_of_length_le (l := t) (by omega), List.take_of_length_le (l := (zs.drop 16).take 4) (by omega), ← chA_yes (u2 zs 10) ((zs.drop 16).take 4) t 2 (by omega) (by omega)] at hm
    rw [ck_zero] at hc
    rw [et, ck_zero]
    refine ⟨wsp_first _ (by rw [ov_length _ _ _ (by rw [ov_length _ _ _ (by rw [bg_length]; omega)]; omega), ov_length _ _ _ (by rw [bg_length]; omega)]; omega) ?_, ?_⟩
    · rw [← et]
      have : ((dst4 zs t).take s).getD 0 0 = zs.getD 0 0 := by rw [← g0]; simp [List.getD_eq_getElem?_getD, show 0 < s by omega]
      rw [this]; omega
    · omega
  unfold ff
  rw [if_neg (by omega), g0, es, e2, if_neg (by omega), if_neg (by omega), hck, e6, g9, if_neg (by omega), if_neg (by omega), if_neg (by omega)]
end
end Go.Proofs.Ythjaolngfjfldaa

/- A header that was made, with data behind: it is read with no reason. Nothing of the program. -/
namespace Go.Proofs.Ythjaolngfjfldaa
open Go.RowKit
theorem list4 (s : List Nat) (h : s.length = 4) : ∃ a b c d, s = [a, b, c, d] := by
  match s, h with
  | [a, b, c, d], _ => exact ⟨a, b, c, d, rfl⟩
theorem mk4_lit (s0 s1 s2 s3 d0 d1 d2 d3 p n : Nat) : ∃ x y, mk4 [s0, s1, s2, s3] [d0, d1, d2, d3] p n = [69, 0, (20 + n) / 256 % 256, (20 + n) % 256, 0, 0, 64, 0, 64, p, x, y, s0, s1, s2, s3, d0, d1, d2, d3] :=
  ⟨ck (mk0 [s0, s1, s2, s3] [d0, d1, d2, d3] p n) / 256 % 256, ck (mk0 [s0, s1, s2, s3] [d0, d1, d2, d3] p n) % 256, rfl⟩
theorem mk4_ck (s d : List Nat) (hs : s.length = 4) (hd : d.length = 4) (p n : Nat) : ck (mk4 s d p n) = 0 := by
  have hl := mk0_length s d hs hd p n
  refine ck_put _ (by omega) ?_ ?_
  · show 0 < 69; omega
  · obtain ⟨s0, s1, s2, s3, rfl⟩ := list4 s hs
    simp [u2, mk0, bg]
set_option maxRecDepth 10000 in
set_option maxHeartbeats 200000 in
theorem mk_read (s d data : List Nat) (p n : Nat) (hs1 : s.length = 4) (hd1 : d.length = 4) (hn : data.length = n) (hn2 : n ≤ 65515) (hp : p = 6 ∨ p = 17) :
    ff (mk4 s d p n ++ data) = 0 ∧ hd (mk4 s d p n ++ data) = hcells 20 (20 + n) p (a4 s) (a4 d) ∧ ((mk4 s d p n ++ data).drop 16).take 4 = d ∧ hs (mk4 s d p n ++ data) = 20 ∧ u2 (mk4 s d p n ++ data) 2 = 20 + n ∧ (mk4 s d p n ++ data).getD 9 0 = p ∧ ((mk4 s d p n ++ data).drop 12).take 4 = s ∧ (mk4 s d p n ++ data).length = 20 + n := by
  have hck := mk4_ck s d hs1 hd1 p n
  obtain ⟨s0, s1, s2, s3, es⟩ := list4 s hs1
  obtain ⟨d0, d1, d2, d3, ed⟩ := list4 d hd1
  clear hs1 hd1
  subst es ed
  obtain ⟨x, y, e⟩ := mk4_lit s0 s1 s2 s3 d0 d1 d2 d3 p n
  rw [e] at hck ⊢
  obtain ⟨Z, hZ⟩ : ∃ Z, Z = [69, 0, (20 + n) / 256 % 256, (20 + n) % 256, 0, 0, 64, 0, 64, p, x, y, s0, s1, s2, s3, d0, d1, d2, d3] ++ data := ⟨_, rfl⟩
  have zl : Z.length = 20 + n := by rw [hZ, List.length_append, hn]; simp
  have g0 : Z.getD 0 0 = 69 := by rw [hZ]; simp
  have g9 : Z.getD 9 0 = p := by rw [hZ]; simp
  have e2 : u2 Z 2 = 20 + n := by
    have : u2 Z 2 = (20 + n) / 256 % 256 * 256 + (20 + n) % 256 := by rw [hZ]; simp [u2]
    omega
  have e6 : u2 Z 6 = 16384 := by rw [hZ]; simp [u2]
  have t20 : Z.take 20 = [69, 0, (20 + n) / 256 % 256, (20 + n) % 256, 0, 0, 64, 0, 64, p, x, y, s0, s1, s2, s3, d0, d1, d2, d3] := by rw [hZ]; simp
  have m12 : (Z.drop 12).take 4 = [s0, s1, s2, s3] := by rw [hZ]; simp
  have m16 : (Z.drop 16).take 4 = [d0, d1, d2, d3] := by rw [hZ]; simp
  have es : hs Z = 20 := by unfold hs; rw [g0]
  rw [← hZ]
  have hff : ff Z = 0 := by
    unfold ff
    rw [if_neg (by omega), g0, es, e2, if_neg (by omega), if_neg (by omega), t20, hck, e6, g9, if_neg (by omega), if_neg (by omega), if_neg (by omega)]
  refine ⟨hff, ?_, m16, es, e2, g9, m12, zl⟩
  unfold hd
  rw [if_pos hff, es, e2, g9, m12, m16]
theorem hd_dst (zs t : List Nat) (h : ff zs = 0) (ht : t.length = 4) (hb : ∀ c ∈ zs, c < 256) : hd (dst4 zs t) = hcells (hs zs) (u2 zs 2) (zs.getD 9 0) (a4 ((zs.drop 12).take 4)) (a4 t) := by
  have e0 := dst_get h ht 0 (by omega)
  have e2 : u2 (dst4 zs t) 2 = u2 zs 2 := by unfold u2; rw [dst_get h ht 2 (by omega), dst_get h ht 3 (by omega)]
  have es : hs (dst4 zs t) = hs zs := by unfold hs; rw [e0]
  unfold hd
  rw [if_pos (dst_ff h ht hb), es, e2, dst_get h ht 9 (by omega), dst_src h ht, dst_dst h ht]
/-- There and back. -/
theorem back_drop (zs t : List Nat) (h : ff zs = 0) (ht : t.length = 4) (hb : ∀ c ∈ zs, c < 256) (d : List Nat) (hd4 : d.length = 4) (hd : (zs.drop 16).take 4 = d) : (dst4 (dst4 zs t) d).drop 12 = zs.drop 12 := by
  have h2 := dst_ff h ht hb
  have parts : ∀ l : List Nat, l.drop 12 = (l.drop 12).take 4 ++ ((l.drop 16).take 4 ++ l.drop 20) := fun l => by
    have e1 : l.drop 16 = (l.drop 12).drop 4 := by rw [List.drop_drop]
    have e2 : l.drop 20 = (l.drop 16).drop 4 := by rw [List.drop_drop]
    rw [e2, List.take_append_drop, e1, List.take_append_drop]
  rw [parts (dst4 (dst4 zs t) d), parts zs, dst_src h2 hd4, dst_src h ht, dst_dst h2 hd4, dst_drop h2 hd4 20 (by omega), dst_drop h ht 20 (by omega), hd]
end Go.Proofs.Ythjaolngfjfldaa

