/- Texts that the walks of this seat lean on, put together: each has its own remark below. -/
import Derived.Test.YtbhiknojjmdbiaaM19

/- A segment that went to another port and address, and back again. Nothing of the program. -/
namespace Go.Proofs.Ytbhiknojjmdbiaa
open Go.RowKit

theorem two_255 (a b : Nat) (ha : a < 256) (hb : b < 256) (h : (a * 256 + b) % 65535 = 0) : a % 255 = 0 ∧ b % 255 = 0 := by
  have : a * 256 + b = 0 ∨ a * 256 + b = 65535 := by omega
  rcases this with e | e
  · have h1 : a = 0 := by omega
    have h2 : b = 0 := by omega
    subst h1 h2; exact ⟨rfl, rfl⟩
  · have h1 : a = 255 := by omega
    have h2 : b = 255 := by omega
    subst h1 h2; exact ⟨rfl, rfl⟩
theorem back_bytes (p : Nat) (zs : List Nat) (tp : Nat) (v : Bool) (F D : List Nat) (hb : ∀ c ∈ zs, c < 256) (h : fs p zs = 0) (hw : wo p zs = false) (ht : tp < 65536) (hF : F.length = 16) (hD : D.length = 16) (hbF : ∀ c ∈ F, c < 256) (hbD : ∀ c ∈ D, c < 256)
    (i : Nat) : zs.getD i 0 = (prt p (prt p zs tp v F D) (u2 zs 2) v D F).getD i 0 ∨
      ((i = sAt p ∨ i = sAt p + 1) ∧ zs.getD i 0 % 255 = 0 ∧ (prt p (prt p zs tp v F D) (u2 zs 2) v D F).getD i 0 % 255 = 0) := by
  have hp : p = 6 ∨ p = 17 := by rcases fs_yes p zs h with ⟨e, -⟩ | ⟨e, -⟩; exact .inl e; exact .inr e
  have hat := sAt_in p zs h
  obtain ⟨h6, -, he⟩ := sAt_len p hp
  have P1 := ported p zs tp v F D hb h ht hF hD hbF
  have P2 := ported p (prt p zs tp v F D) (u2 zs 2) v D F P1.lt P1.fs (u2_lt zs 2 hb) hD hF hbD
  have s1 := P1.sum hw F hF
  have s2 := P2.sum (by rw [P1.wo, hw]) F hF
  have g1 := P1.get
  have g2 := P2.get
  have e2 := P2.u2
  have l1 := P1.len
  have l2 := P2.len
  have b2 := P2.lt
  generalize prt p (prt p zs tp v F D) (u2 zs 2) v D F = E at *
  generalize prt p zs tp v F D = C at *
  have gE : ∀ i, i ≠ 2 → i ≠ 3 → i ≠ sAt p → i ≠ sAt p + 1 → E.getD i 0 = zs.getD i 0 := fun i q1 q2 q3 q4 => by rw [g2 i q1 q2 q3 q4, g1 i q1 q2 q3 q4]
  have x2 := getD_lt E b2 2
  have x3 := getD_lt E b2 3
  have y2 := getD_lt zs hb 2
  have y3 := getD_lt zs hb 3
  unfold u2 at e2
  have f2 : E.getD 2 0 = zs.getD 2 0 := by
    have e3 : E.getD 2 0 * 256 + E.getD 3 0 = zs.getD 2 0 * 256 + zs.getD 3 0 := e2
    omega
  have f3 : E.getD 3 0 = zs.getD 3 0 := by
    have e3 : E.getD 2 0 * 256 + E.getD 3 0 = zs.getD 2 0 * 256 + zs.getD 3 0 := e2
    omega
  have gF : ∀ i, i ≠ sAt p → i ≠ sAt p + 1 → E.getD i 0 = zs.getD i 0 := fun i q3 q4 => by
    by_cases q1 : i = 2
    · subst q1; exact f2
    · by_cases q2 : i = 3
      · subst q2; exact f3
      · exact gE i q1 q2 q3 q4
  have xa := getD_lt E b2 (sAt p)
  have xb := getD_lt E b2 (sAt p + 1)
  have ya := getD_lt zs hb (sAt p)
  have yb := getD_lt zs hb (sAt p + 1)
  have hcl := u2_lt E (sAt p) b2
  have hol := u2_lt zs (sAt p) hb
  have hbl := bg_length 2 (u2 E (sAt p))
  have hE : E = ov zs (bg 2 (u2 E (sAt p))) (sAt p) := by
    refine ext_getD _ _ 0 (by rw [ov_length _ _ _ (by omega)]; omega) fun j hj => ?_
    rw [ov_get _ _ _ _ (by omega), hbl, bg2]
    by_cases q3 : j = sAt p
    · subst q3
      rw [if_pos (by omega), Nat.sub_self]
      show E.getD (sAt p) 0 = u2 E (sAt p) / 256 % 256
      unfold u2; omega
    · by_cases q4 : j = sAt p + 1
      · subst q4
        rw [if_pos (by omega), show sAt p + 1 - sAt p = 1 by omega]
        show E.getD (sAt p + 1) 0 = u2 E (sAt p) % 256
        unfold u2; omega
      · rw [if_neg (by omega)]; exact gF j q3 q4
  have hwsp := ov_wsp zs (bg 2 (u2 E (sAt p))) (sAt p) he (by omega) (by omega)
  rw [hbl, wsp_two_at zs (sAt p) (by omega), wsp_bg _ hcl, ← hE] at hwsp
  have hc : u2 E (sAt p) % 65535 = u2 zs (sAt p) % 65535 := by
    unfold tsum at s1 s2
    rw [l2, l1] at s2
    rw [l1] at s1
    omega
  have hcases : u2 E (sAt p) = u2 zs (sAt p) ∨ (u2 E (sAt p) % 65535 = 0 ∧ u2 zs (sAt p) % 65535 = 0) := by omega
  by_cases q3 : i = sAt p
  · subst q3
    unfold u2 at hcases
    rcases hcases with q | ⟨q1, q2⟩
    · left; omega
    · right; exact ⟨.inl rfl, (two_255 _ _ ya yb q2).1, (two_255 _ _ xa xb q1).1⟩
  · by_cases q4 : i = sAt p + 1
    · subst q4
      unfold u2 at hcases
      rcases hcases with q | ⟨q1, q2⟩
      · left; omega
      · right; exact ⟨.inr rfl, (two_255 _ _ ya yb q2).2, (two_255 _ _ xa xb q1).2⟩
    · left; exact (gF i q3 q4).symm
end Go.Proofs.Ytbhiknojjmdbiaa

/- A row that is answered, with its place. -/
namespace Go.Proofs.Ytbhiknojjmdbiaa
open Go.RowKit
theorem some_rd {P : Program} {f : Nat} {args : Array Value} {W : World} {L : List Nat} {n : Nat} (hn : L.length = n) (h0 : 0 < n)
    (h : Calls P f args W fun e w' => ∃ x, e = .returned x ∧ Rd w' x (nus .u8 L) ∧ Below W.heap.size W w') :
    Calls P f args W fun e w' => ∃ b off c, e = .returned (.slice (some ⟨b, off, none⟩) n c) ∧ Rd w' (.slice (some ⟨b, off, none⟩) n c) (nus .u8 L) ∧ Below W.heap.size W w' := by
  refine h.mono ?_
  rintro e w' ⟨x, rfl, hr, hb⟩
  obtain ⟨a, c, rfl, -, -⟩ := rd_shape hr
  obtain ⟨b, off, rfl, -⟩ := hr.cells (by omega)
  rw [hn] at hr ⊢
  exact ⟨b, off, c, rfl, hr, hb⟩
end Go.Proofs.Ytbhiknojjmdbiaa

