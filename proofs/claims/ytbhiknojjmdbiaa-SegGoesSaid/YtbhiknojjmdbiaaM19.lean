/- Texts that the walks of this seat lean on, put together: each has its own remark below. -/
import Derived.Lib.QuietBelow
import Derived.StillTailTactics
import Derived.Test.YtbhiknojjmdbiaaM01
import Derived.Test.YtbhiknojjmdbiaaM08
import Derived.Test.YtbhiknojjmdbiaaM10
import Derived.Test.YtbhiknojjmdbiaaM17

/- Sums of segments: what is built is good; another port and address keep it so; a bit that is turned does not. Nothing of the program. -/
namespace Go.Proofs.Ytbhiknojjmdbiaa
open Go.RowKit

theorem wsp_pos : ∀ (l : List Nat) (p : Nat), (∃ x ∈ l, 0 < x) → 0 < wsp p l
  | [], _, h => by obtain ⟨x, h, -⟩ := h; cases h
  | y :: r, p, h => by
    obtain ⟨x, hx, h0⟩ := h
    simp only [wsp]
    rcases List.mem_cons.1 hx with rfl | hx
    · have : 0 < x * wt p := Nat.mul_pos h0 (by unfold wt; split <;> omega)
      omega
    · have := wsp_pos r (p + 1) ⟨x, hx, h0⟩
      omega
theorem tsum_pos (p : Nat) (zs : List Nat) (v : Bool) (S D : List Nat) (hp : 0 < p) : 0 < tsum p zs v S D := by
  unfold tsum
  have : 0 < wsp 0 (psd v S D p zs.length) := wsp_pos _ 0 ⟨p, by unfold psd; cases v <;> simp, hp⟩
  omega
theorem gd_yes (p : Nat) (zs : List Nat) (v : Bool) (S D : List Nat) (hp : 0 < p) (h : fs p zs = 0) (h2 : wo p zs = true ∨ tsum p zs v S D % 65535 = 0) : gd p zs v S v D = true := by
  unfold gd
  rw [decide_eq_true ⟨h, rfl⟩, Bool.true_and]
  rcases h2 with h2 | h2
  · rw [h2]; rfl
  · rw [decide_eq_true ((gr_full _).2 ⟨Nat.ne_of_gt (tsum_pos p zs v S D hp), h2⟩), Bool.or_true]
theorem gd_no (p : Nat) (zs : List Nat) (v : Bool) (S D : List Nat) (h : wo p zs = false) (h2 : tsum p zs v S D % 65535 ≠ 0) : gd p zs v S v D = false := by
  unfold gd
  rw [h, Bool.false_or, decide_eq_false (fun e => h2 ((gr_full _).1 e).2), Bool.and_false]
theorem u2_ov (zs : List Nat) (c k : Nat) (h : k + 2 ≤ zs.length) (hc : c < 65536) : u2 (ov zs (bg 2 c) k) k = c := by
  have hl := bg_length 2 c
  unfold u2
  rw [ov_get _ _ _ _ (by omega), ov_get _ _ _ _ (by omega), hl, if_pos (by omega), if_pos (by omega), Nat.sub_self, show k + 1 - k = 1 by omega, bg2]
  show c / 256 % 256 * 256 + c % 256 = c
  omega
theorem sAt_len (p : Nat) (hp : p = 6 ∨ p = 17) : 6 ≤ sAt p ∧ sAt p + 2 ≤ hsz p ∧ sAt p % 2 = 0 := by rcases hp with rfl | rfl <;> simp [sAt, hsz]
theorem seg0_ck (p : Nat) (hp : p = 6 ∨ p = 17) (sp dp f : Nat) (data : List Nat) : u2 (seg0 p sp dp f data) (sAt p) = 0 := by
  rcases hp with rfl | rfl
  · rw [seg0_tcp]; unfold u2; simp [sAt]
  · rw [seg0_udp]; unfold u2; simp [sAt]
/-- What is built is good, and has a checksum if it is not bare. -/
theorem built_wo (p : Nat) (hp : p = 6 ∨ p = 17) (v : Bool) (S D : List Nat) (sp dp f : Nat) (data : List Nat) (bare : Bool) : wo p (segB p v S D sp dp f data bare) = decide (p = 17 ∧ bare = true) := by
  obtain ⟨h6, hl, -⟩ := sAt_len p hp
  rcases hp with rfl | rfl
  · unfold wo; rw [decide_eq_false (by omega), decide_eq_false (by omega)]
  · by_cases hb : bare = true
    · rw [decide_eq_true ⟨rfl, hb⟩]
      unfold wo segB
      rw [if_pos ⟨rfl, hb⟩]
      exact decide_eq_true ⟨rfl, seg0_ck 17 (.inr rfl) sp dp f data⟩
    · rw [decide_eq_false (fun h : (17 : Nat) = 17 ∧ bare = true => hb h.2)]
      unfold wo segB
      rw [if_neg (fun h : (17 : Nat) = 17 ∧ bare = true => hb h.2)]
      refine decide_eq_false (fun h => ?_)
      have h := h.2
      have e := u2_ov (seg0 17 sp dp f data) (ckB 17 v S D (seg0 17 sp dp f data)) 6 (by rw [seg0_len]; show 6 + 2 ≤ 8 + _; omega) (ckB_lt _ _ _ _ _)
      rw [show sAt 17 = 6 from rfl, e] at h
      unfold ckB at h
      split at h <;> omega
theorem built_sum (p : Nat) (hp : p = 6 ∨ p = 17) (v : Bool) (S D : List Nat) (sp dp f : Nat) (data : List Nat) (bare : Bool) (hb : ¬ (p = 17 ∧ bare = true)) : tsum p (segB p v S D sp dp f data bare) v S D % 65535 = 0 := by
  obtain ⟨h6, hl, he⟩ := sAt_len p hp
  have hlen := seg0_len p sp dp f data
  have hck := seg0_ck p hp sp dp f data
  unfold segB
  rw [if_neg hb]
  generalize seg0 p sp dp f data = s0 at *
  have hc := ckB_lt p v S D s0
  have hm := gr_mod (tsum p s0 v S D)
  have hle := gr_le (tsum p s0 v S D)
  have hck2 : ckB p v S D s0 % 65535 = (65535 - gr (tsum p s0 v S D)) % 65535 := by unfold ckB; split <;> omega
  generalize ckB p v S D s0 = c at *
  have hbl := bg_length 2 c
  have hw := ov_wsp s0 (bg 2 c) (sAt p) he (by omega) (by omega)
  rw [hbl, wsp_two_at s0 (sAt p) (by omega), hck, wsp_bg c hc] at hw
  have hl2 : (ov s0 (bg 2 c) (sAt p)).length = s0.length := ov_length _ _ _ (by omega)
  unfold tsum at hm hle hck2 ⊢
  rw [hl2]
  omega
theorem built_good (p : Nat) (hp : p = 6 ∨ p = 17) (v : Bool) (S D : List Nat) (sp dp f : Nat) (data : List Nat) (bare : Bool) (hl : data.length ≤ 2000) : gd p (segB p v S D sp dp f data bare) v S v D = true := by
  refine gd_yes p _ v S D (by omega) (segB_fs p hp v S D sp dp f data bare hl) ?_
  by_cases hb : p = 17 ∧ bare = true
  · exact .inl (by rw [built_wo p hp, decide_eq_true hb])
  · exact .inr (built_sum p hp v S D sp dp f data bare hb)
/-- What Port leaves, and what it makes. -/
structure Ported (p : Nat) (zs : List Nat) (tp : Nat) (v : Bool) (F D : List Nat) : Prop where
  len : (prt p zs tp v F D).length = zs.length
  lt : ∀ c ∈ prt p zs tp v F D, c < 256
  get : ∀ i, i ≠ 2 → i ≠ 3 → i ≠ sAt p → i ≠ sAt p + 1 → (prt p zs tp v F D).getD i 0 = zs.getD i 0
  fs : fs p (prt p zs tp v F D) = 0
  u0 : u2 (prt p zs tp v F D) 0 = u2 zs 0
  u2 : u2 (prt p zs tp v F D) 2 = tp
  wo : wo p (prt p zs tp v F D) = wo p zs
  bare : Go.Proofs.Ytbhiknojjmdbiaa.wo p zs = true → prt p zs tp v F D = ov zs (bg 2 tp) 2
  sum : Go.Proofs.Ytbhiknojjmdbiaa.wo p zs = false → ∀ S : List Nat, S.length = 16 → tsum p (prt p zs tp v F D) v S D % 65535 = tsum p zs v S F % 65535
theorem psd_wsp (v : Bool) (p n : Nat) : ∃ r, ∀ S D : List Nat, S.length = 16 → D.length = 16 → wsp 0 (psd v S D p n) = wsp 0 (bytesA v S) + wsp 0 (bytesA v D) + r := by
  refine ⟨wsp 0 (if v then bg 4 n ++ [0, 0, 0, p] else [0, p] ++ bg 2 n), fun S D hS hD => ?_⟩
  unfold psd
  rw [wsp_append, wsp_append, List.length_append, bytesA_len v S hS, bytesA_len v D hD]
  congr 1
  · congr 1
    exact wsp_eq _ _ _ (by cases v <;> rfl)
  · exact wsp_eq _ _ _ (by cases v <;> rfl)
theorem ported (p : Nat) (zs : List Nat) (tp : Nat) (v : Bool) (F D : List Nat) (hb : ∀ c ∈ zs, c < 256) (h : fs p zs = 0) (ht : tp < 65536) (hF : F.length = 16) (hD : D.length = 16) (hbF : ∀ c ∈ F, c < 256) : Ported p zs tp v F D := by
  have hp : p = 6 ∨ p = 17 := by rcases fs_yes p zs h with ⟨e, -⟩ | ⟨e, -⟩; exact .inl e; exact .inr e
  have hat := sAt_in p zs h
  obtain ⟨h6, -, he⟩ := sAt_len p hp
  have hbt := bg_length 2 tp
  have hpc := pc_lt p zs tp v F D hb
  have hbc := bg_length 2 (pc p zs tp v F D)
  have lZ : (ov zs (bg 2 tp) 2).length = zs.length := ov_length _ _ _ (by omega)
  have gZ : ∀ i, i ≠ 2 → i ≠ 3 → (ov zs (bg 2 tp) 2).getD i 0 = zs.getD i 0 := fun i h1 h2 => ov_get_off _ _ _ _ (by omega) (by omega)
  have lC : (prt p zs tp v F D).length = zs.length := by
    unfold prt; split
    · exact lZ
    · rw [ov_length _ _ _ (by omega), lZ]
  have gC : ∀ i, i ≠ 2 → i ≠ 3 → i ≠ sAt p → i ≠ sAt p + 1 → (prt p zs tp v F D).getD i 0 = zs.getD i 0 := fun i h1 h2 h3 h4 => by
    unfold prt; split
    · exact gZ i h1 h2
    · rw [ov_get_off _ _ _ _ (by omega) (by omega), gZ i h1 h2]
  have hfs : fs p (prt p zs tp v F D) = 0 := by
    rcases fs_yes p zs h with ⟨rfl, q1, q2, q3⟩ | ⟨rfl, q1, q2, q3⟩
    · have g := gC 12 (by omega) (by omega) (by simp [sAt]) (by simp [sAt])
      have e : tz (prt 6 zs tp v F D) = tz zs := by unfold tz; rw [g]
      exact fs_six _ (by omega) (by omega) (by omega)
    · have g1 := gC 4 (by omega) (by omega) (by simp [sAt]) (by simp [sAt])
      have g2 := gC 5 (by omega) (by omega) (by simp [sAt]) (by simp [sAt])
      have e : Go.Proofs.Ytbhiknojjmdbiaa.u2 (prt 17 zs tp v F D) 4 = Go.Proofs.Ytbhiknojjmdbiaa.u2 zs 4 := by unfold Go.Proofs.Ytbhiknojjmdbiaa.u2; rw [g1, g2]
      exact fs_udp _ (by omega) (by omega) (by omega)
  have hu0 : u2 (prt p zs tp v F D) 0 = u2 zs 0 := by unfold u2; rw [gC 0 (by omega) (by omega) (by omega) (by omega), gC 1 (by omega) (by omega) (by omega) (by omega)]
  have hZ2 : u2 (ov zs (bg 2 tp) 2) 2 = tp := u2_ov zs tp 2 (by omega) ht
  have hZa : u2 (ov zs (bg 2 tp) 2) (sAt p) = u2 zs (sAt p) := by unfold u2; rw [gZ _ (by omega) (by omega), gZ _ (by omega) (by omega)]
  have hu2 : u2 (prt p zs tp v F D) 2 = tp := by
    unfold prt; split
    · exact hZ2
    · rw [ov_u2_off _ _ _ _ (by omega) (by omega), hZ2]
  have hCa : wo p zs = false → u2 (prt p zs tp v F D) (sAt p) = pc p zs tp v F D := fun hw => by
    unfold prt; rw [hw]; exact u2_ov _ _ _ (by omega) hpc
  have hwo : wo p (prt p zs tp v F D) = wo p zs := by
    by_cases hw : wo p zs = true
    · have e : prt p zs tp v F D = ov zs (bg 2 tp) 2 := by unfold prt; rw [if_pos hw]
      rw [hw, e]
      have hw2 := of_decide_eq_true hw
      obtain ⟨rfl, h0⟩ := hw2
      exact decide_eq_true ⟨rfl, by rw [show (6 : Nat) = sAt 17 from rfl, hZa]; exact h0⟩
    · have hw := Bool.eq_false_iff.2 hw
      rw [hw]
      refine decide_eq_false ?_
      rintro ⟨rfl, h0⟩
      have := hCa hw
      rw [show sAt 17 = 6 from rfl, h0] at this
      unfold pc at this
      split at this <;> omega
  refine ⟨lC, ?_, gC, hfs, hu0, hu2, hwo, fun hw => by unfold prt; rw [if_pos hw], fun hw S hS => ?_⟩
  · unfold prt; split
    · exact ov_lt _ _ _ hb (bg_lt 2 _)
    · exact ov_lt _ _ _ (ov_lt _ _ _ hb (bg_lt 2 _)) (bg_lt 2 _)
  · have hC : prt p zs tp v F D = ov (ov zs (bg 2 tp) 2) (bg 2 (pc p zs tp v F D)) (sAt p) := by unfold prt; rw [hw]; rfl
    have w1 := ov_wsp zs (bg 2 tp) 2 rfl (by omega) (by omega)
    rw [hbt, wsp_two_at zs 2 (by omega), wsp_bg tp ht] at w1
    have w2 := ov_wsp (ov zs (bg 2 tp) 2) (bg 2 (pc p zs tp v F D)) (sAt p) he (by omega) (by omega)
    rw [hbc, wsp_two_at _ (sAt p) (by omega), wsp_bg _ hpc, hZa, ← hC] at w2
    obtain ⟨r, hr⟩ := psd_wsp v p zs.length
    have p1 := hr S D hS hD
    have p2 := hr S F hS hF
    have lF := bytesA_len v F hF
    have lD := bytesA_len v D hD
    have l2 := two_at zs 2 (by omega)
    have hol := u2_lt zs (sAt p) hb
    have c0 : (chA (u2 zs (sAt p)) ((zs.drop 2).take 2) (bg 2 tp) + tp) % 65535 = (u2 zs (sAt p) + u2 zs 2) % 65535 := by
      rw [chA_yes _ _ _ 1 l2 hbt]
      have := chg_mod (u2 zs (sAt p)) ((zs.drop 2).take 2) (bg 2 tp) (by omega) (fun c hc => hb c (List.mem_of_mem_drop (List.mem_of_mem_take hc))) 1 (by omega) (by omega)
      have t1 : (bg 2 tp).take (2 * 1) = bg 2 tp := List.take_of_length_le (by omega)
      have t2 : ((zs.drop 2).take 2).take (2 * 1) = (zs.drop 2).take 2 := List.take_of_length_le (by omega)
      rwa [t1, t2, wsp_bg tp ht, wsp_two_at zs 2 (by omega)] at this
    have hc0 : chA (u2 zs (sAt p)) ((zs.drop 2).take 2) (bg 2 tp) < 65536 := chA_lt _ _ _ hol
    have c1 : (pc1 p zs tp v F D + wsp 0 (bytesA v D)) % 65535 = (chA (u2 zs (sAt p)) ((zs.drop 2).take 2) (bg 2 tp) + wsp 0 (bytesA v F)) % 65535 := by
      unfold pc1
      generalize chA (u2 zs (sAt p)) ((zs.drop 2).take 2) (bg 2 tp) = o at *
      obtain ⟨m, hm⟩ : ∃ m, (if v then 16 else 4) = 2 * m := by cases v; exact ⟨2, rfl⟩; exact ⟨8, rfl⟩
      rw [chA_yes _ _ _ m (by rw [lF, hm]) (by rw [lD, hm])]
      have := chg_mod o (bytesA v F) (bytesA v D) (by omega) (bytesA_lt v F hbF) m (by omega) (by omega)
      have t1 : (bytesA v F).take (2 * m) = bytesA v F := List.take_of_length_le (by omega)
      have t2 : (bytesA v D).take (2 * m) = bytesA v D := List.take_of_length_le (by omega)
      rwa [t1, t2] at this
    have c2 : pc p zs tp v F D % 65535 = pc1 p zs tp v F D % 65535 := by unfold pc; split <;> omega
    unfold tsum
    rw [lC, p1, p2]
    omega
end Go.Proofs.Ytbhiknojjmdbiaa

/- A bit that is turned, in a segment or in an address. Nothing of the program. -/
namespace Go.Proofs.Ytbhiknojjmdbiaa
open Go.RowKit

theorem xor_bit (x b : Nat) (hx : x < 256) (hb : b < 8) : x ^^^ 2 ^ b < 256 ∧ (x ^^^ 2 ^ b = x + 2 ^ b ∨ (x ^^^ 2 ^ b) + 2 ^ b = x) := by
  have : ∀ x : Fin 256, ∀ b : Fin 8, x.1 ^^^ 2 ^ b.1 < 256 ∧ (x.1 ^^^ 2 ^ b.1 = x.1 + 2 ^ b.1 ∨ (x.1 ^^^ 2 ^ b.1) + 2 ^ b.1 = x.1) := by decide +kernel
  exact this ⟨x, hx⟩ ⟨b, hb⟩
theorem two_pow (b : Nat) (hb : b < 8) : 1 ≤ 2 ^ b ∧ 2 ^ b ≤ 128 := by
  have : ∀ b : Fin 8, 1 ≤ 2 ^ b.1 ∧ 2 ^ b.1 ≤ 128 := by decide
  exact this ⟨b, hb⟩
/-- A row with one bit turned. -/
def turn (l : List Nat) (i b : Nat) : List Nat := l.set i (l.getD i 0 ^^^ 2 ^ b)
theorem turn_len (l : List Nat) (i b : Nat) : (turn l i b).length = l.length := by simp [turn]
theorem turn_lt (l : List Nat) (i b : Nat) (hl : ∀ c ∈ l, c < 256) (hb : b < 8) : ∀ c ∈ turn l i b, c < 256 := by
  intro c hc
  unfold turn at hc
  rcases List.mem_or_eq_of_mem_set hc with h | rfl
  · exact hl c h
  · exact (xor_bit _ b (getD_lt l hl i) hb).1
theorem turn_wsp (l : List Nat) (i b : Nat) (hl : ∀ c ∈ l, c < 256) (hb : b < 8) (hi : i < l.length) : ∃ d, 1 ≤ d ∧ d ≤ 32768 ∧ (wsp 0 (turn l i b) = wsp 0 l + d ∨ wsp 0 (turn l i b) + d = wsp 0 l) := by
  have h1 := wsp_set l 0 i (l.getD i 0 ^^^ 2 ^ b) hi
  rw [Nat.zero_add] at h1
  obtain ⟨-, hx⟩ := xor_bit (l.getD i 0) b (getD_lt l hl i) hb
  obtain ⟨p1, p2⟩ := two_pow b hb
  have hw : wt i = 256 ∨ wt i = 1 := by unfold wt; split <;> simp
  refine ⟨2 ^ b * wt i, ?_, ?_, ?_⟩
  · rcases hw with e | e <;> rw [e] <;> omega
  · rcases hw with e | e <;> rw [e] <;> omega
  · unfold turn
    generalize l.getD i 0 ^^^ 2 ^ b = y at *
    generalize l.getD i 0 = x at *
    generalize 2 ^ b = q at *
    rcases hx with rfl | rfl
    · left; rw [Nat.add_mul] at h1; omega
    · right; rw [Nat.add_mul] at h1; omega
theorem turn_sum (p : Nat) (zs : List Nat) (v : Bool) (S D : List Nat) (i b : Nat) (hl : ∀ c ∈ zs, c < 256) (hb : b < 8) (hi : i < zs.length) (h : tsum p zs v S D % 65535 = 0) : tsum p (turn zs i b) v S D % 65535 ≠ 0 := by
  obtain ⟨d, d1, d2, hd⟩ := turn_wsp zs i b hl hb hi
  unfold tsum at h ⊢
  rw [turn_len]
  omega
theorem turn_addr (p : Nat) (zs : List Nat) (v : Bool) (S D : List Nat) (i b : Nat) (hl : ∀ c ∈ S, c < 256) (hS : S.length = 16) (hD : D.length = 16) (hb : b < 8) (hi : i < 4) (h : tsum p zs v S D % 65535 = 0) : tsum p zs v (turn S i b) D % 65535 ≠ 0 := by
  have e : bytesA v (turn S i b) = turn (bytesA v S) i b := by
    unfold bytesA turn
    cases v with
    | true => rfl
    | false =>
      show (S.set i _).take 4 = (S.take 4).set i _
      rw [List.take_set, show (if false = true then S else S.take 4) = S.take 4 from rfl, getD_take S 4 i hi]
  have hlen := bytesA_len v S hS
  obtain ⟨d, d1, d2, hd⟩ := turn_wsp (bytesA v S) i b (bytesA_lt v S hl) hb (by rw [hlen]; split <;> omega)
  obtain ⟨r, hr⟩ := psd_wsp v p zs.length
  have h1 := hr S D hS hD
  have h2 := hr (turn S i b) D (by rw [turn_len]; exact hS) hD
  rw [e] at h2
  unfold tsum at h ⊢
  omega
end Go.Proofs.Ytbhiknojjmdbiaa

/- Rows and blocks that stay where one above them turns; the numbers of a drawn flow and a drawn server; a bit that is turned, as the program has it. -/
namespace Go.Proofs.Ytbhiknojjmdbiaa
open Go.RowKit Go.Sort

theorem rd_lt {w : World} {b off n c : Nat} {xs : List Nat} (h : Rd w (.slice (some ⟨b, off, none⟩) n c) (nus .u8 xs)) (h0 : 0 < n) : b < w.heap.size := by
  obtain ⟨b', o', e, hc⟩ := h.cells h0
  cases e
  exact rd_cell (n := 0) (hc 0 h0)
theorem rd_keep {w w' : World} {b off n c B : Nat} {xs : List Nat} (h : Rd w (.slice (some ⟨b, off, none⟩) n c) (nus .u8 xs)) (hB : Below B w w') (hb : b < B) : Rd w' (.slice (some ⟨b, off, none⟩) n c) (nus .u8 xs) := by
  obtain ⟨a', c', e, h1, h2, h3⟩ := h
  refine ⟨a', c', e, h1, h2, ?_⟩
  rcases h3 with h3 | ⟨b', o', rfl, h4, h5⟩
  · exact .inl h3
  · cases e
    exact .inr ⟨_, _, rfl, Nat.lt_of_lt_of_le h4 hB.size, fun i hi => by rw [hB.cell (p := ⟨b, off + i, none⟩) hb]; exact h5 i hi⟩
theorem pow_t : ∀ t : Fin 8, 1 ≤ 2 ^ t.1 ∧ 2 ^ t.1 ≤ 128 := by decide
theorem xor_val (y t : Nat) (hy : y < 256) (ht : t < 8) : bits .xor .u8 (y : Int) ((2 ^ t : Nat) : Int) = ((y ^^^ 2 ^ t : Nat) : Int) :=
  u8_xor_nat _ _ hy (by have := (pow_t ⟨t, ht⟩).2; simp only at this; omega)
theorem xor_val' (y t : Nat) (hy : y < 256) (ht : t < 8) : bits .xor .u8 (y : Int) ((2 : Int) ^ t % 256) = ((y ^^^ 2 ^ t : Nat) : Int) := by
  have hp := (pow_t ⟨t, ht⟩).2
  simp only at hp
  have e : (2 : Int) ^ t = ((2 ^ t : Nat) : Int) := by simp
  have hm : ((2 ^ t : Nat) : Int) % 256 = ((2 ^ t : Nat) : Int) := by
    generalize (2 ^ t : Nat) = p at hp
    omega
  rw [← xor_val y t hy ht, e, hm]
theorem xor_four (y : Nat) (hy : y < 256) : bits .xor .u8 (y : Int) 4 = ((y ^^^ 2 ^ 2 : Nat) : Int) := by
  have := xor_val y 2 hy (by omega)
  exact this
theorem kSz_len (u : Nat) : (kS u ++ List.replicate 12 0).length = 16 := rfl
theorem kS_lt (u : Nat) : ∀ c ∈ kS u, c < 256 := by simp [kS]; omega
theorem kSz_lt (u : Nat) : ∀ c ∈ kS u ++ List.replicate 12 0, c < 256 := by
  intro c hc
  rcases List.mem_append.1 hc with h | h
  · exact kS_lt u c h
  · have := (List.mem_replicate.1 h).2; omega
theorem kSz_v (v : Bool) (u : Nat) : vldA v (kS u ++ List.replicate 12 0) = true := by
  unfold vldA kS
  simp only [Bool.or_eq_true]
  right
  rfl
theorem kDz_lt : ∀ c ∈ kD ++ List.replicate 12 0, c < 256 := by decide
theorem kDz_v (v : Bool) : vldA v (kD ++ List.replicate 12 0) = true := by cases v <;> rfl
theorem dBz_lt (q : Nat) (h : q < 200) : ∀ c ∈ dB q ++ List.replicate 12 0, c < 256 := by
  intro c hc
  rcases List.mem_append.1 hc with h | h
  · simp [dB] at h; omega
  · have := (List.mem_replicate.1 h).2; omega
end Go.Proofs.Ytbhiknojjmdbiaa

