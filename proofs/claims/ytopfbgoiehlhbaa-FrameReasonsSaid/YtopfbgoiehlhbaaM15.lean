/- Texts that the walks of this seat lean on, put together: each has its own remark below. -/
import Derived.Test.YtopfbgoiehlhbaaM01
import Derived.Test.YtopfbgoiehlhbaaM02
import Derived.Test.YtopfbgoiehlhbaaM06
import Derived.Test.YtopfbgoiehlhbaaM08
import Derived.Test.YtopfbgoiehlhbaaM09
import Derived.Test.YtopfbgoiehlhbaaM12
import Derived.Test.YtopfbgoiehlhbaaM13
import Derived.Test.YtopfbgoiehlhbaaM14

/- bazaarlaw7.of: the segment of a frame that is built. -/
namespace Go.Proofs.Ytopfbgoiehlhbaa
open Go.RowKit

theorem build_any (p : Nat) (hp : p = 6 ∨ p = 17) (v : Bool) (sb db : List Nat) (sp dp f pad : Nat) (a : Option Addr) (la ca : Nat) (zs : List Nat) (tag bare : Bool) (w : World) (hr : Rd w (.slice a la ca) (nus .u8 zs)) (hL : zs.length = la) (hna : a = none → ca = 0) (hb : ∀ c ∈ zs, c < 256) (hz : la ≤ 2000)
    (hl1 : sb.length = 16) (hl2 : db.length = 16) (hb1 : ∀ c ∈ sb, c < 256) (hb2 : ∀ c ∈ db, c < 256) (hv1 : vldA v sb = true) (hv2 : vldA v db = true) (hsp : sp < 65536) (hdp : dp < 65536) (hf : f < 256) (hpad : pad ≤ 100) :
    Calls Try.prog 18 #[.agg (kcells p (cellsA v sb) (cellsA v db) sp dp), .int .u8 (f : Int), .slice a la ca, .bool tag, .bool bare, .int .i64 (pad : Int)] w fun e w' => ∃ x n, e = .returned x ∧ w'.ownsRow w.heap.size 5 1 x n (nus .u8 (frmB v sb db p sp dp f zs tag bare pad)) ∧ Below w.heap.size w w' := by
  rcases hp with rfl | rfl
  · cases v
    · exact build_t4 sb db sp dp f pad a la ca zs tag bare w hr hL hna hb hz hl1 hl2 hb1 hb2 hv1 hv2 hsp hdp hf hpad
    · exact build_t6 sb db sp dp f pad a la ca zs tag bare w hr hL hna hb hz hl1 hl2 hb1 hb2 hv1 hv2 hsp hdp hf hpad
  · cases v <;> cases bare
    · exact build_u4 sb db sp dp f pad a la ca zs tag w hr hL hna hb hz hl1 hl2 hb1 hb2 hv1 hv2 hsp hdp hf hpad
    · exact build_b4 sb db sp dp f pad a la ca zs tag w hr hL hna hb hz hl1 hl2 hb1 hb2 hv1 hv2 hsp hdp hf hpad
    · exact build_u6 sb db sp dp f pad a la ca zs tag w hr hL hna hb hz hl1 hl2 hb1 hb2 hv1 hv2 hsp hdp hf hpad
    · exact build_b6 sb db sp dp f pad a la ca zs tag w hr hL hna hb hz hl1 hl2 hb1 hb2 hv1 hv2 hsp hdp hf hpad
theorem frmB_lt (v : Bool) (S D : List Nat) (p sp dp f : Nat) (data : List Nat) (tag bare : Bool) (pad : Nat) (hp : p < 256) (_hS : S.length = 16) (_hD : D.length = 16) (hb1 : ∀ c ∈ S, c < 256) (hb2 : ∀ c ∈ D, c < 256) (hf : f < 256) (hd : ∀ c ∈ data, c < 256) :
    ∀ c ∈ frmB v S D p sp dp f data tag bare pad, c < 256 := by
  intro c hc
  unfold frmB at hc
  simp only [List.mem_append] at hc
  rcases hc with ((h | h) | h) | h
  · unfold ethB at h; cases tag <;> cases v <;> simp at h <;> omega
  · unfold headB at h
    cases v with
    | true => exact mk6_lt S D p _ hb1 hb2 hp c h
    | false => exact ov_lt _ _ _ (mk0_lt (S.take 4) (D.take 4) p _ (fun c hc => hb1 c (List.mem_of_mem_take hc)) (fun c hc => hb2 c (List.mem_of_mem_take hc)) hp) (bg_lt 2 _) c h
  · exact segB_lt p v S D sp dp f data bare hf hd c h
  · have := (List.mem_replicate.1 h).2; omega
end Go.Proofs.Ytopfbgoiehlhbaa

/- Sums of segments: what is built is good; another port and address keep it so; a bit that is turned does not. Nothing of the program. -/
namespace Go.Proofs.Ytopfbgoiehlhbaa
open Go.RowKit

theorem wsp_pos : ∀ (l : List Nat) (p : Nat), (∃ x ∈ l, 0 < x) → 0 < wsp p l
  | [], _, h => by obtain ⟨x, h, -⟩ := h; cases h
  | y :: r, p, h => by
    obtain ⟨x, hx, h0⟩ := h
    simp only [wsp]
    rcases List.mem_cons.1 hx with rfl | hx
    · have : 0 < x * wt p := Nat.mul_pos h0 (by unfold wt; split <;> omega)
      omega
    · have := wsp_pos r (p + 1) ⟨x, hx, h0⟩
      omega
theorem tsum_pos (p : Nat) (zs : List Nat) (v : Bool) (S D : List Nat) (hp : 0 < p) : 0 < tsum p zs v S D := by
  unfold tsum
  have : 0 < wsp 0 (psd v S D p zs.length) := wsp_pos _ 0 ⟨p, by unfold psd; cases v <;> simp, hp⟩
  omega
theorem gd_yes (p : Nat) (zs : List Nat) (v : Bool) (S D : List Nat) (hp : 0 < p) (h : fs p zs = 0) (h2 : wo p zs = true ∨ tsum p zs v S D % 65535 = 0) : gd p zs v S v D = true := by
  unfold gd
  rw [decide_eq_true ⟨h, rfl⟩, Bool.true_and]
  rcases h2 with h2 | h2
  · rw [h2]; rfl
  · rw [decide_eq_true ((gr_full _).2 ⟨Nat.ne_of_gt (tsum_pos p zs v S D hp), h2⟩), Bool.or_true]
theorem gd_no (p : Nat) (zs : List Nat) (v : Bool) (S D : List Nat) (h : wo p zs = false) (h2 : tsum p zs v S D % 65535 ≠ 0) : gd p zs v S v D = false := by
  unfold gd
  rw [h, Bool.false_or, decide_eq_false (fun e => h2 ((gr_full _).1 e).2), Bool.and_false]
theorem u2_ov (zs : List Nat) (c k : Nat) (h : k + 2 ≤ zs.length) (hc : c < 65536) : u2 (ov zs (bg 2 c) k) k = c := by
  have hl := bg_length 2 c
  unfold u2
  rw [ov_get _ _ _ _ (by omega), ov_get _ _ _ _ (by omega), hl, if_pos (by omega), if_pos (by omega), Nat.sub_self, show k + 1 - k = 1 by omega, bg2]
  show c / 256 % 256 * 256 + c % 256 = c
  omega
theorem sAt_len (p : Nat) (hp : p = 6 ∨ p = 17) : 6 ≤ sAt p ∧ sAt p + 2 ≤ hsz p ∧ sAt p % 2 = 0 := by rcases hp with rfl | rfl <;> simp [sAt, hsz]
theorem seg0_ck (p : Nat) (hp : p = 6 ∨ p = 17) (sp dp f : Nat) (data : List Nat) : u2 (seg0 p sp dp f data) (sAt p) = 0 := by
  rcases hp with rfl | rfl
  · rw [seg0_tcp]; unfold u2; simp [sAt]
  · rw [seg0_udp]; unfold u2; simp [sAt]
/-- What is built is good, and has a checksum if it is not bare. -/
theorem built_wo (p : Nat) (hp : p = 6 ∨ p = 17) (v : Bool) (S D : List Nat) (sp dp f : Nat) (data : List Nat) (bare : Bool) : wo p (segB p v S D sp dp f data bare) = decide (p = 17 ∧ bare = true) := by
  obtain ⟨h6, hl, -⟩ := sAt_len p hp
  rcases hp with rfl | rfl
  · unfold wo; rw [decide_eq_false (by omega), decide_eq_false (by omega)]
  · by_cases hb : bare = true
    · rw [decide_eq_true ⟨rfl, hb⟩]
      unfold wo segB
      rw [if_pos ⟨rfl, hb⟩]
      exact decide_eq_true ⟨rfl, seg0_ck 17 (.inr rfl) sp dp f data⟩
    · rw [decide_eq_false (fun h : (17 : Nat) = 17 ∧ bare = true => hb h.2)]
      unfold wo segB
      rw [if_neg (fun h : (17 : Nat) = 17 ∧ bare = true => hb h.2)]
      refine decide_eq_false (fun h => ?_)
      have h := h.2
      have e := u2_ov (seg0 17 sp dp f data) (ckB 17 v S D (seg0 17 sp dp f data)) 6 (by rw [seg0_len]; show 6 + 2 ≤ 8 + _; omega) (ckB_lt _ _ _ _ _)
      rw [show sAt 17 = 6 from rfl, e] at h
      unfold ckB at h
      split at h <;> omega
theorem built_sum (p : Nat) (hp : p = 6 ∨ p = 17) (v : Bool) (S D : List Nat) (sp dp f : Nat) (data : List Nat) (bare : Bool) (hb : ¬ (p = 17 ∧ bare = true)) : tsum p (segB p v S D sp dp f data bare) v S D % 65535 = 0 := by
  obtain ⟨h6, hl, he⟩ := sAt_len p hp
  have hlen := seg0_len p sp dp f data
  have hck := seg0_ck p hp sp dp f data
  unfold segB
  rw [if_neg hb]
  generalize seg0 p sp dp f data = s0 at *
  have hc := ckB_lt p v S D s0
  have hm := gr_mod (tsum p s0 v S D)
  have hle := gr_le (tsum p s0 v S D)
  have hck2 : ckB p v S D s0 % 65535 = (65535 - gr (tsum p s0 v S D)) % 65535 := by unfold ckB; split <;> omega
  generalize ckB p v S D s0 = c at *
  have hbl := bg_length 2 c
  have hw := ov_wsp s0 (bg 2 c) (sAt p) he (by omega) (by omega)
  rw [hbl, wsp_two_at s0 (sAt p) (by omega), hck, wsp_bg c hc] at hw
  have hl2 : (ov s0 (bg 2 c) (sAt p)).length = s0.length := ov_length _ _ _ (by omega)
  unfold tsum at hm hle hck2 ⊢
  rw [hl2]
  omega
theorem built_good (p : Nat) (hp : p = 6 ∨ p = 17) (v : Bool) (S D : List Nat) (sp dp f : Nat) (data : List Nat) (bare : Bool) (hl : data.length ≤ 2000) : gd p (segB p v S D sp dp f data bare) v S v D = true := by
  refine gd_yes p _ v S D (by omega) (segB_fs p hp v S D sp dp f data bare hl) ?_
  by_cases hb : p = 17 ∧ bare = true
  · exact .inl (by rw [built_wo p hp, decide_eq_true hb])
  · exact .inr (built_sum p hp v S D sp dp f data bare hb)
/-- What Port leaves, and what it makes. -/
structure Ported (p : Nat) (zs : List Nat) (tp : Nat) (v : Bool) (F D : List Nat) : Prop where
  len : (prt p zs tp v F D).length = zs.length
  lt : ∀ c ∈ prt p zs tp v F D, c < 256
  get : ∀ i, i ≠ 2 → i ≠ 3 → i ≠ sAt p → i ≠ sAt p + 1 → (prt p zs tp v F D).getD i 0 = zs.getD i 0
  fs : fs p (prt p zs tp v F D) = 0
  u0 : u2 (prt p zs tp v F D) 0 = u2 zs 0
  u2 : u2 (prt p zs tp v F D) 2 = tp
  wo : wo p (prt p zs tp v F D) = wo p zs
  bare : Go.Proofs.Ytopfbgoiehlhbaa.wo p zs = true → prt p zs tp v F D = ov zs (bg 2 tp) 2
  sum : Go.Proofs.Ytopfbgoiehlhbaa.wo p zs = false → ∀ S : List Nat, S.length = 16 → tsum p (prt p zs tp v F D) v S D % 65535 = tsum p zs v S F % 65535
theorem psd_wsp (v : Bool) (p n : Nat) : ∃ r, ∀ S D : List Nat, S.length = 16 → D.length = 16 → wsp 0 (psd v S D p n) = wsp 0 (bytesA v S) + wsp 0 (bytesA v D) + r := by
  refine ⟨wsp 0 (if v then bg 4 n ++ [0, 0, 0, p] else [0, p] ++ bg 2 n), fun S D hS hD => ?_⟩
  unfold psd
  rw [wsp_append, wsp_append, List.length_append, bytesA_len v S hS, bytesA_len v D hD]
  congr 1
  · congr 1
    exact wsp_eq _ _ _ (by cases v <;> rfl)
  · exact wsp_eq _ _ _ (by cases v <;> rfl)
theorem ported (p : Nat) (zs : List Nat) (tp : Nat) (v : Bool) (F D : List Nat) (hb : ∀ c ∈ zs, c < 256) (h : fs p zs = 0) (ht : tp < 65536) (hF : F.length = 16) (hD : D.length = 16) (hbF : ∀ c ∈ F, c < 256) : Ported p zs tp v F D := by
  have hp : p = 6 ∨ p = 17 := by rcases fs_yes p zs h with ⟨e, -⟩ | ⟨e, -⟩; exact .inl e; exact .inr e
  have hat := sAt_in p zs h
  obtain ⟨h6, -, he⟩ := sAt_len p hp
  have hbt := bg_length 2 tp
  have hpc := pc_lt p zs tp v F D hb
  have hbc := bg_length 2 (pc p zs tp v F D)
  have lZ : (ov zs (bg 2 tp) 2).length = zs.length := ov_length _ _ _ (by omega)
  have gZ : ∀ i, i ≠ 2 → i ≠ 3 → (ov zs (bg 2 tp) 2).getD i 0 = zs.getD i 0 := fun i h1 h2 => ov_get_off _ _ _ _ (by omega) (by omega)
  have lC : (prt p zs tp v F D).length = zs.length := by
    unfold prt; split
    · exact lZ
    · rw [ov_length _ _ _ (by omega), lZ]
  have gC : ∀ i, i ≠ 2 → i ≠ 3 → i ≠ sAt p → i ≠ sAt p + 1 → (prt p zs tp v F D).getD i 0 = zs.getD i 0 := fun i h1 h2 h3 h4 => by
    unfold prt; split
    · exact gZ i h1 h2
    · rw [ov_get_off _ _ _ _ (by omega) (by omega), gZ i h1 h2]
  have hfs : fs p (prt p zs tp v F D) = 0 := by
    rcases fs_yes p zs h with ⟨rfl, q1, q2, q3⟩ | ⟨rfl, q1, q2, q3⟩
    · have g := gC 12 (by omega) (by omega) (by simp [sAt]) (by simp [sAt])
      have e : tz (prt 6 zs tp v F D) = tz zs := by unfold tz; rw [g]
      exact fs_six _ (by omega) (by omega) (by omega)
    · have g1 := gC 4 (by omega) (by omega) (by simp [sAt]) (by simp [sAt])
      have g2 := gC 5 (by omega) (by omega) (by simp [sAt]) (by simp [sAt])
      have e : Go.Proofs.Ytopfbgoiehlhbaa.u2 (prt 17 zs tp v F D) 4 = Go.Proofs.Ytopfbgoiehlhbaa.u2 zs 4 := by unfold Go.Proofs.Ytopfbgoiehlhbaa.u2; rw [g1, g2]
      exact fs_udp _ (by omega) (by omega) (by omega)
  have hu0 : u2 (prt p zs tp v F D) 0 = u2 zs 0 := by unfold u2; rw [gC 0 (by omega) (by omega) (by omega) (by omega), gC 1 (by omega) (by omega) (by omega) (by omega)]
  have hZ2 : u2 (ov zs (bg 2 tp) 2) 2 = tp := u2_ov zs tp 2 (by omega) ht
  have hZa : u2 (ov zs (bg 2 tp) 2) (sAt p) = u2 zs (sAt p) := by unfold u2; rw [gZ _ (by omega) (by omega), gZ _ (by omega) (by omega)]
  have hu2 : u2 (prt p zs tp v F D) 2 = tp := by
    unfold prt; split
    · exact hZ2
    · rw [ov_u2_off _ _ _ _ (by omega) (by omega), hZ2]
  have hCa : wo p zs = false → u2 (prt p zs tp v F D) (sAt p) = pc p zs tp v F D := fun hw => by
    unfold prt; rw [hw]; exact u2_ov _ _ _ (by omega) hpc
  have hwo : wo p (prt p zs tp v F D) = wo p zs := by
    by_cases hw : wo p zs = true
    · have e : prt p zs tp v F D = ov zs (bg 2 tp) 2 := by unfold prt; rw [if_pos hw]
      rw [hw, e]
      have hw2 := of_decide_eq_true hw
      obtain ⟨rfl, h0⟩ := hw2
      exact decide_eq_true ⟨rfl, by rw [show (6 : Nat) = sAt 17 from rfl, hZa]; exact h0⟩
    · have hw := Bool.eq_false_iff.2 hw
      rw [hw]
      refine decide_eq_false ?_
      rintro ⟨rfl, h0⟩
      have := hCa hw
      rw [show sAt 17 = 6 from rfl, h0] at this
      unfold pc at this
      split at this <;> omega
  refine ⟨lC, ?_, gC, hfs, hu0, hu2, hwo, fun hw => by unfold prt; rw [if_pos hw], fun hw S hS => ?_⟩
  · unfold prt; split
    · exact ov_lt _ _ _ hb (bg_lt 2 _)
    · exact ov_lt _ _ _ (ov_lt _ _ _ hb (bg_lt 2 _)) (bg_lt 2 _)
  · have hC : prt p zs tp v F D = ov (ov zs (bg 2 tp) 2) (bg 2 (pc p zs tp v F D)) (sAt p) := by unfold prt; rw [hw]; rfl
    have w1 := ov_wsp zs (bg 2 tp) 2 rfl (by omega) (by omega)
    rw [hbt, wsp_two_at zs 2 (by omega), wsp_bg tp ht] at w1
    have w2 := ov_wsp (ov zs (bg 2 tp) 2) (bg 2 (pc p zs tp v F D)) (sAt p) he (by omega) (by omega)
    rw [hbc, wsp_two_at _ (sAt p) (by omega), wsp_bg _ hpc, hZa, ← hC] at w2
    obtain ⟨r, hr⟩ := psd_wsp v p zs.length
    have p1 := hr S D hS hD
    have p2 := hr S F hS hF
    have lF := bytesA_len v F hF
    have lD := bytesA_len v D hD
    have l2 := two_at zs 2 (by omega)
    have hol := u2_lt zs (sAt p) hb
    have c0 : (chA (u2 zs (sAt p)) ((zs.drop 2).take 2) (bg 2 tp) + tp) % 65535 = (u2 zs (sAt p) + u2 zs 2) % 65535 := by
      rw [chA_yes _ _ _ 1 l2 hbt]
      have := chg_mod (u2 zs (sAt p)) ((zs.drop 2).take 2) (bg 2 tp) (by omega) (fun c hc => hb c (List.mem_of_mem_drop (List.mem_of_mem_take hc))) 1 (by omega) (by omega)
      have t1 : (bg 2 tp).take (2 * 1) = bg 2 tp := List.take_of_length_le (by omega)
      have t2 : ((zs.drop 2).take 2).take (2 * 1) = (zs.drop 2).take 2 := List.take_of_length_le (by omega)
      rwa [t1, t2, wsp_bg tp ht, wsp_two_at zs 2 (by omega)] at this
    have hc0 : chA (u2 zs (sAt p)) ((zs.drop 2).take 2) (bg 2 tp) < 65536 := chA_lt _ _ _ hol
    have c1 : (pc1 p zs tp v F D + wsp 0 (bytesA v D)) % 65535 = (chA (u2 zs (sAt p)) ((zs.drop 2).take 2) (bg 2 tp) + wsp 0 (bytesA v F)) % 65535 := by
      unfold pc1
      generalize chA (u2 zs (sAt p)) ((zs.drop 2).take 2) (bg 2 tp) = o at *
      obtain ⟨m, hm⟩ : ∃ m, (if v then 16 else 4) = 2 * m := by cases v; exact ⟨2, rfl⟩; exact ⟨8, rfl⟩
      rw [chA_yes _ _ _ m (by rw [lF, hm]) (by rw [lD, hm])]
      have := chg_mod o (bytesA v F) (bytesA v D) (by omega) (bytesA_lt v F hbF) m (by omega) (by omega)
      have t1 : (bytesA v F).take (2 * m) = bytesA v F := List.take_of_length_le (by omega)
      have t2 : (bytesA v D).take (2 * m) = bytesA v D := List.take_of_length_le (by omega)
      rwa [t1, t2] at this
    have c2 : pc p zs tp v F D % 65535 = pc1 p zs tp v F D % 65535 := by unfold pc; split <;> omega
    unfold tsum
    rw [lC, p1, p2]
    omega
end Go.Proofs.Ytopfbgoiehlhbaa

/- The view of a packet, as far as its own header tells it. Nothing of the program. -/
namespace Go.Proofs.Ytopfbgoiehlhbaa
open Go.RowKit

/-- The view, as far as the header of the packet tells it. -/
def pv (six : Bool) (at0 : Nat) (T : List Nat) : Array Value :=
  if fhr six T = 0 then vcells six at0 (at0 + fS six T) (at0 + fL six T) (kcells (fP six T) (fA six T) (fB six T) 0 0) 0 else v0
theorem pv_all (six : Bool) (at0 : Nat) (T : List Nat) : (pv six at0 T).all (·.oneCell') = true := by
  unfold pv; split
  · exact vcells_all _ _ _ _ _ _ (kcells_all _ _ _ _ _ (fA_all _ _) (fB_all _ _))
  · exact v0_all
theorem pv_size (six : Bool) (at0 : Nat) (T : List Nat) : (pv six at0 T).size = 42 := by
  unfold pv; split
  · rename_i h
    have := fhd_yes six T h
    exact vcells_size _ _ _ _ _ _ (kcells_size _ _ _ _ _ this.sA this.sB)
  · exact v0_size
theorem vw_all (zs : List Nat) : (vw zs).all (·.oneCell') = true := by
  unfold vw keyF; split
  · exact vcells_all _ _ _ _ _ _ (kcells_all _ _ _ _ _ (fA_all _ _) (fB_all _ _))
  · exact v0_all
theorem rr_yes (zs : List Nat) (h : rr zs = 0) : (net zs).2.2 = 0 ∧ fhr (sixF zs) (pkt zs) = 0 ∧ fs (fP (sixF zs) (pkt zs)) (sgm zs) = 0 := by
  unfold rr at h
  split at h
  · rename_i h1; exact absurd h h1
  · rename_i h1
    split at h
    · rename_i h2; exact absurd h h2
    · rename_i h2; exact ⟨Decidable.not_not.1 h1, Decidable.not_not.1 h2, h⟩
theorem vw_size (zs : List Nat) : (vw zs).size = 42 := by
  unfold vw keyF; split
  · rename_i h
    have := fhd_yes _ _ (rr_yes zs h).2.1
    exact vcells_size _ _ _ _ _ _ (kcells_size _ _ _ _ _ this.sA this.sB)
  · exact v0_size
/-- The segment of a packet. -/
def sgT (six : Bool) (at0 : Nat) (zs : List Nat) : List Nat := (zs.drop (at0 + fS six (zs.drop at0))).take (fL six (zs.drop at0) - fS six (zs.drop at0))
/-- The view with what the segment tells. -/
def sv (six : Bool) (at0 : Nat) (zs : List Nat) : Array Value :=
  if fs (fP six (zs.drop at0)) (sgT six at0 zs) = 0 then vcells six at0 (at0 + fS six (zs.drop at0)) (at0 + fL six (zs.drop at0)) (kcells (fP six (zs.drop at0)) (fA six (zs.drop at0)) (fB six (zs.drop at0)) (u2 (sgT six at0 zs) 0) (u2 (sgT six at0 zs) 2)) (fl (fP six (zs.drop at0)) (sgT six at0 zs))
  else v0
theorem sv_eq (zs : List Nat) (h : (net zs).2.2 = 0) (h2 : fhr (sixF zs) (pkt zs) = 0) : rr zs = fs (fP (sixF zs) (pkt zs)) (sgT (sixF zs) (net zs).1 zs) ∧ vw zs = sv (sixF zs) (net zs).1 zs := by
  have e : rr zs = fs (fP (sixF zs) (pkt zs)) (sgm zs) := by unfold rr; rw [if_neg (fun x => x h), if_neg (fun x => x h2)]
  refine ⟨e, ?_⟩
  unfold vw; rw [e]; rfl
theorem rr_net (zs : List Nat) (h : (net zs).2.2 ≠ 0) : rr zs = (net zs).2.2 ∧ vw zs = v0 := by
  have e : rr zs = (net zs).2.2 := by unfold rr; rw [if_pos h]
  exact ⟨e, by unfold vw; rw [e, if_neg h]⟩
theorem rr_pkt (zs : List Nat) (h : (net zs).2.2 = 0) (h2 : fhr (sixF zs) (pkt zs) ≠ 0) : rr zs = fhr (sixF zs) (pkt zs) ∧ vw zs = v0 := by
  have e : rr zs = fhr (sixF zs) (pkt zs) := by unfold rr; rw [if_neg (fun x => x h), if_pos h2]
  exact ⟨e, by unfold vw; rw [e, if_neg h2]⟩
theorem sv_all (six : Bool) (at0 : Nat) (zs : List Nat) : (sv six at0 zs).all (·.oneCell') = true := by
  unfold sv; split
  · exact vcells_all _ _ _ _ _ _ (kcells_all _ _ _ _ _ (fA_all _ _) (fB_all _ _))
  · exact v0_all
theorem sv_size (six : Bool) (at0 : Nat) (zs : List Nat) (h : fhr six (zs.drop at0) = 0) : (sv six at0 zs).size = 42 := by
  unfold sv; split
  · have := fhd_yes six _ h
    exact vcells_size _ _ _ _ _ _ (kcells_size _ _ _ _ _ this.sA this.sB)
  · exact v0_size
theorem rr_lt (zs : List Nat) : rr zs < 7 := by
  unfold rr
  split
  · exact (net_lt zs).2
  · split
    · exact fhr_lt _ _
    · exact fs_lt _ _
end Go.Proofs.Ytopfbgoiehlhbaa

/- Whether a frame is good; the addresses of a packet as bytes. Nothing of the program. -/
namespace Go.Proofs.Ytopfbgoiehlhbaa
open Go.RowKit

/-- The addresses' bytes. -/
def lA (six : Bool) (T : List Nat) : List Nat := if six then (T.drop 8).take 16 else (T.drop 12).take 4 ++ List.replicate (16 - ((T.drop 12).take 4).length) 0
def lB (six : Bool) (T : List Nat) : List Nat := if six then (T.drop 24).take 16 else (T.drop 16).take 4 ++ List.replicate (16 - ((T.drop 16).take 4).length) 0
theorem lA_eq (six : Bool) (T : List Nat) : Value.agg (fA six T) = adr six (lA six T) := by cases six <;> rfl
theorem lB_eq (six : Bool) (T : List Nat) : Value.agg (fB six T) = adr six (lB six T) := by cases six <;> rfl
theorem len_room (six : Bool) (T : List Nat) (h : fhr six T = 0) : (if six then 40 else 20) ≤ T.length := by
  cases six with
  | true => exact (f6_yes T h).1
  | false => exact (ff_yes T h).1
theorem lA_len (six : Bool) (T : List Nat) (h : fhr six T = 0) : (lA six T).length = 16 := by
  have := len_room six T h
  cases six with
  | true => simp [lA] at this ⊢; omega
  | false => simp [lA] at this ⊢; omega
theorem lB_len (six : Bool) (T : List Nat) (h : fhr six T = 0) : (lB six T).length = 16 := by
  have := len_room six T h
  cases six with
  | true => simp [lB] at this ⊢; omega
  | false => simp [lB] at this ⊢; omega
theorem lA_lt (six : Bool) (T : List Nat) (h : ∀ c ∈ T, c < 256) : ∀ c ∈ lA six T, c < 256 := by
  intro c hc
  unfold lA at hc
  split at hc
  · exact h c (List.mem_of_mem_drop (List.mem_of_mem_take hc))
  · rcases List.mem_append.1 hc with hc | hc
    · exact h c (List.mem_of_mem_drop (List.mem_of_mem_take hc))
    · rw [List.eq_of_mem_replicate hc]; omega
theorem lB_lt (six : Bool) (T : List Nat) (h : ∀ c ∈ T, c < 256) : ∀ c ∈ lB six T, c < 256 := by
  intro c hc
  unfold lB at hc
  split at hc
  · exact h c (List.mem_of_mem_drop (List.mem_of_mem_take hc))
  · rcases List.mem_append.1 hc with hc | hc
    · exact h c (List.mem_of_mem_drop (List.mem_of_mem_take hc))
    · rw [List.eq_of_mem_replicate hc]; omega
/-- Whether a frame is good. -/
def gf (zs : List Nat) : Bool := decide (rr zs = 0) && gd (fP (sixF zs) (pkt zs)) (sgm zs) (sixF zs) (lA (sixF zs) (pkt zs)) (sixF zs) (lB (sixF zs) (pkt zs))
end Go.Proofs.Ytopfbgoiehlhbaa

/- The layers of a frame, in plain numbers: which, and where. Nothing of the program. -/
namespace Go.Proofs.Ytopfbgoiehlhbaa
open Go.RowKit

/-- The layers' names. -/
def nmS (k : Nat) : ByteArray :=
  if k = 0 then { data := #[101, 116, 104, 101, 114] } else if k = 1 then { data := #[118, 108, 97, 110] } else if k = 2 then { data := #[105, 112, 118, 52] }
  else if k = 3 then { data := #[105, 112, 118, 54] } else if k = 4 then { data := #[116, 99, 112] } else { data := #[117, 100, 112] }
/-- A row of layers as the cells that hold it. -/
def lcells (L : List (Nat × Nat)) : List Value := L.flatMap fun x => [.string (nmS x.1), .int .i64 (x.2 : Int)]
theorem lcells_length (L : List (Nat × Nat)) : (lcells L).length = L.length * 2 := by
  induction L with
  | nil => rfl
  | cons x L ih => simp only [lcells, List.flatMap_cons, List.length_append] at ih ⊢; simp only [List.length_cons, List.length_nil]; omega
theorem lcells_append (L M : List (Nat × Nat)) : lcells (L ++ M) = lcells L ++ lcells M := by simp [lcells]
/-- The outer layers: ahead of the packet. -/
def ly0 (zs : List Nat) : List (Nat × Nat) := (0, 0) :: if u2 zs 12 = 33024 then [(1, 14)] else []
/-- The layers, as far as they can be told. -/
def lys (zs : List Nat) : List (Nat × Nat) :=
  if (net zs).2.2 = 1 then []
  else if (net zs).2.2 ≠ 0 then ly0 zs
  else if fhr (sixF zs) (pkt zs) ≠ 0 then ly0 zs
  else if fs (fP (sixF zs) (pkt zs)) (sgm zs) ≠ 0 then ly0 zs ++ [(if sixF zs then 3 else 2, (net zs).1)]
  else ly0 zs ++ [(if sixF zs then 3 else 2, (net zs).1)] ++ [(if fP (sixF zs) (pkt zs) = 17 then 5 else 4, (net zs).1 + fS (sixF zs) (pkt zs))]
theorem ly0_len (zs : List Nat) : (ly0 zs).length = if u2 zs 12 = 33024 then 2 else 1 := by unfold ly0; split <;> rfl
theorem lys_len (zs : List Nat) : (lys zs).length ≤ 4 := by
  have h0 : (ly0 zs).length ≤ 2 := by rw [ly0_len]; split <;> omega
  unfold lys
  by_cases h1 : (net zs).2.2 = 1
  · rw [if_pos h1]; simp
  rw [if_neg h1]
  by_cases h2 : (net zs).2.2 ≠ 0
  · rw [if_pos h2]; omega
  rw [if_neg h2]
  by_cases h3 : fhr (sixF zs) (pkt zs) ≠ 0
  · rw [if_pos h3]; omega
  rw [if_neg h3]
  by_cases h4 : fs (fP (sixF zs) (pkt zs)) (sgm zs) ≠ 0
  · rw [if_pos h4, List.length_append, List.length_singleton]; omega
  · rw [if_neg h4, List.length_append, List.length_append, List.length_singleton, List.length_singleton]; omega
end Go.Proofs.Ytopfbgoiehlhbaa

/- A frame that was built, with a tag or none, whatever stands behind it, and cut off anywhere: what is read of it. Nothing of the program. -/
namespace Go.Proofs.Ytopfbgoiehlhbaa
open Go.RowKit

theorem getDa (Z R : List Nat) (i : Nat) (h : i < Z.length) : (Z ++ R).getD i 0 = Z.getD i 0 := by
  rw [List.getD_eq_getElem?_getD, List.getElem?_append_left h, ← List.getD_eq_getElem?_getD]
theorem u2_app' (Z R : List Nat) (i : Nat) (h : i + 2 ≤ Z.length) : u2 (Z ++ R) i = u2 Z i := by
  unfold u2; rw [getDa _ _ _ (by omega), getDa _ _ _ (by omega)]
theorem ff_more (Z R : List Nat) (h : ff Z = 0) : ff (Z ++ R) = 0 ∧ hs (Z ++ R) = hs Z := by
  obtain ⟨h20, h4, hs20, hsl, hl, hck, hfr, hp⟩ := ff_yes Z h
  have e : hs (Z ++ R) = hs Z := by unfold hs; rw [getDa _ _ _ (by omega)]
  refine ⟨?_, e⟩
  unfold ff
  rw [e, u2_app' _ _ 2 (by omega), u2_app' _ _ 6 (by omega), getDa _ _ 0 (by omega), getDa _ _ 9 (by omega), List.take_append_of_le_length (by omega)]
  have hlen : (Z ++ R).length = Z.length + R.length := by simp
  rw [if_neg (by omega), if_neg (by omega), if_neg (by omega), if_neg (by omega), if_neg (by omega), if_neg (by omega)]
theorem hd_key (v : Bool) (S D : List Nat) (p : Nat) (SG R : List Nat) (n : Nat) (hp : p = 6 ∨ p = 17) (hS : S.length = 16) (hD : D.length = 16) (hvS : vldA v S = true) (hvD : vldA v D = true) (hn : SG.length = n) (hn2 : n ≤ 60000) :
    fhr v (headB v S D p n ++ (SG ++ R)) = 0 ∧ fS v (headB v S D p n ++ (SG ++ R)) = (if v then 40 else 20) ∧ fL v (headB v S D p n ++ (SG ++ R)) = (if v then 40 else 20) + n ∧
      fP v (headB v S D p n ++ (SG ++ R)) = p ∧ fA v (headB v S D p n ++ (SG ++ R)) = cellsA v S ∧ fB v (headB v S D p n ++ (SG ++ R)) = cellsA v D := by
  have hl : n ≤ (SG ++ R).length := by rw [List.length_append]; omega
  cases v with
  | true =>
    have hf := mk6_f S D (SG ++ R) p n hS hD (by omega) hp hl
    refine ⟨hf, rfl, ?_, ?_, ?_, ?_⟩
    · show 40 + u2 (mk6 S D p n ++ (SG ++ R)) 4 = _
      rw [mk6_u2 S D _ p _ (by omega)]; rfl
    · show (mk6 S D p n ++ (SG ++ R)).getD 6 0 = p
      rw [mk6_cons]; rfl
    · show srcA _ = _
      unfold srcA; rw [show headB true S D p n = mk6 S D p n from rfl, mk6_src S D _ p _ hS]
    · show dstA _ = _
      unfold dstA; rw [show headB true S D p n = mk6 S D p n from rfl, mk6_dst S D _ p _ hS hD]
  | false =>
    obtain ⟨q1, q2, q3, q4, q5, q6, q7, q8⟩ := mk_read (S.take 4) (D.take 4) SG p n (by simp [hS]) (by simp [hD]) hn (by omega) hp
    rw [← List.append_assoc]
    rw [show headB false S D p n = mk4 (S.take 4) (D.take 4) p n from rfl]
    obtain ⟨m1, m2⟩ := ff_more _ R q1
    refine ⟨m1, m2.trans q4, ?_, ?_, ?_, ?_⟩
    · show u2 (mk4 (S.take 4) (D.take 4) p n ++ SG ++ R) 2 = _
      rw [u2_app' _ _ 2 (by omega), q5]; rfl
    · show (mk4 (S.take 4) (D.take 4) p n ++ SG ++ R).getD 9 0 = p
      rw [getDa _ _ 9 (by omega), q6]
    · show a4 _ = _
      rw [List.drop_append_of_le_length (by omega), List.take_append_of_le_length (by rw [List.length_drop]; omega), q7]; exact a4_take S hS hvS
    · show a4 _ = _
      rw [List.drop_append_of_le_length (by omega), List.take_append_of_le_length (by rw [List.length_drop]; omega), q3]; exact a4_take D hD hvD
/-- A frame with whatever behind it. -/
def frR (v : Bool) (S D : List Nat) (p sp dp f : Nat) (data : List Nat) (tag bare : Bool) (R : List Nat) : List Nat :=
  ethB tag v ++ (headB v S D p (hsz p + data.length) ++ (segB p v S D sp dp f data bare ++ R))
theorem frmB_R (v : Bool) (S D : List Nat) (p sp dp f : Nat) (data : List Nat) (tag bare : Bool) (pad : Nat) : frmB v S D p sp dp f data tag bare pad = frR v S D p sp dp f data tag bare (List.replicate pad 0) := by
  unfold frmB frR; simp
/-- Where the packet stands; its header's size. -/
def hN (tag : Bool) : Nat := if tag then 18 else 14
def hH (v : Bool) : Nat := if v then 40 else 20
theorem ethB_len (tag v : Bool) : (ethB tag v).length = hN tag := by cases tag <;> cases v <;> rfl
theorem eth_net (tag v : Bool) (X : List Nat) : net (ethB tag v ++ X) = (hN tag, (if v then 34525 else 2048), 0) := by
  have hl : ¬ (ethB tag v ++ X).length < hN tag := by rw [List.length_append, ethB_len]; omega
  cases tag with
  | true =>
    have hl : ¬ (ethB true v ++ X).length < 18 := hl
    have h12 : u2 (ethB true v ++ X) 12 = 33024 := by unfold u2 ethB; cases v <;> simp
    have h16 : u2 (ethB true v ++ X) 16 = if v then 34525 else 2048 := by unfold u2 ethB; cases v <;> simp
    rw [net_tag _ (by omega) h12 hl, h16]
    cases v <;> rfl
  | false =>
    have hl : ¬ (ethB false v ++ X).length < 14 := hl
    have h12 : u2 (ethB false v ++ X) 12 = if v then 34525 else 2048 := by unfold u2 ethB; cases v <;> simp
    rw [net_bare _ hl (by rw [h12]; cases v <;> decide), h12]
    cases v <;> rfl
theorem eth_six (tag v : Bool) (X : List Nat) : sixF (ethB tag v ++ X) = v := by unfold sixF; rw [eth_net]; cases v <;> rfl
theorem eth_pkt (tag v : Bool) (X : List Nat) : pkt (ethB tag v ++ X) = X := by unfold pkt; rw [eth_net]; exact drop_app _ _ _ (ethB_len tag v)
/-- The outer layers. -/
def lyE (tag : Bool) : List (Nat × Nat) := if tag then [(0, 0), (1, 14)] else [(0, 0)]
theorem eth_ly (tag v : Bool) (X : List Nat) : ly0 (ethB tag v ++ X) = lyE tag := by
  have h12 : u2 (ethB tag v ++ X) 12 = if tag then 33024 else if v then 34525 else 2048 := by unfold u2 ethB; cases tag <;> cases v <;> simp
  unfold ly0; rw [h12]
  cases tag <;> cases v <;> rfl
structure Told8 (v : Bool) (S D : List Nat) (p sp dp f : Nat) (data : List Nat) (tag bare : Bool) (R F : List Nat) : Prop where
  len : F.length = hN tag + hH v + (hsz p + data.length) + R.length
  sg : sgm F = segB p v S D sp dp f data bare
  rr : rr F = 0
  vw : vw F = vcells v (hN tag) (hN tag + hH v) (hN tag + hH v + (hsz p + data.length)) (kcells p (cellsA v S) (cellsA v D) sp dp) (if p = 6 then f else 0)
  gf : gf F = true
  ly : lys F = lyE tag ++ [(if v then 3 else 2, hN tag)] ++ [(if p = 17 then 5 else 4, hN tag + hH v)]
theorem lA_of (v : Bool) (T S : List Nat) (h : fA v T = cellsA v S) (hS : S.length = 16) (h2 : fhr v T = 0) : lA v T = S := by
  have e : cellsA v (lA v T) = cellsA v S := by
    have := lA_eq v T
    rw [h] at this
    exact (Value.agg.inj this).symm
  have l1 := lA_len v T h2
  refine ext_getD _ _ 0 (by rw [l1, hS]) fun i hi => ?_
  rw [l1] at hi
  have c1 : (cellsA v (lA v T))[i + 1]? = some (.int .u8 (((lA v T).getD i 0 : Nat) : Int)) := by
    simp [cellsA, List.getD_eq_getElem?_getD, l1, hi]
  have c2 : (cellsA v S)[i + 1]? = some (.int .u8 ((S.getD i 0 : Nat) : Int)) := by
    simp [cellsA, List.getD_eq_getElem?_getD, hS, hi]
  rw [e, c2] at c1
  simp only [Option.some.injEq, Value.int.injEq, true_and] at c1
  omega
theorem lB_of (v : Bool) (T S : List Nat) (h : fB v T = cellsA v S) (hS : S.length = 16) (h2 : fhr v T = 0) : lB v T = S := by
  have e : cellsA v (lB v T) = cellsA v S := by
    have := lB_eq v T
    rw [h] at this
    exact (Value.agg.inj this).symm
  have l1 := lB_len v T h2
  refine ext_getD _ _ 0 (by rw [l1, hS]) fun i hi => ?_
  rw [l1] at hi
  have c1 : (cellsA v (lB v T))[i + 1]? = some (.int .u8 (((lB v T).getD i 0 : Nat) : Int)) := by
    simp [cellsA, List.getD_eq_getElem?_getD, l1, hi]
  have c2 : (cellsA v S)[i + 1]? = some (.int .u8 ((S.getD i 0 : Nat) : Int)) := by
    simp [cellsA, List.getD_eq_getElem?_getD, hS, hi]
  rw [e, c2] at c1
  simp only [Option.some.injEq, Value.int.injEq, true_and] at c1
  omega
theorem told8 (v : Bool) (S D : List Nat) (p sp dp f : Nat) (data : List Nat) (tag bare : Bool) (R : List Nat) (hp : p = 6 ∨ p = 17) (hS : S.length = 16) (hD : D.length = 16) (hvS : vldA v S = true) (hvD : vldA v D = true)
    (hl : data.length ≤ 1500) (hsp : sp < 65536) (hdp : dp < 65536) : Told8 v S D p sp dp f data tag bare R (frR v S D p sp dp f data tag bare R) := by
  have hn := segB_len p hp v S D sp dp f data bare
  have hz : hsz p ≤ 20 := by unfold hsz; split <;> omega
  have h0 := segB_fs p hp v S D sp dp f data bare (by omega)
  have hgd := built_good p hp v S D sp dp f data bare (by omega)
  obtain ⟨hu0, hu2, hfl⟩ := segB_ports p hp v S D sp dp f data bare hsp hdp
  obtain ⟨k1, k2, k3, k4, k5, k6⟩ := hd_key v S D p (segB p v S D sp dp f data bare) R (hsz p + data.length) hp hS hD hvS hvD hn (by omega)
  have hh := headB_len v S D p (hsz p + data.length) hS hD
  unfold frR
  generalize hSG : segB p v S D sp dp f data bare = SG at *
  generalize hX : headB v S D p (hsz p + data.length) ++ (SG ++ R) = X at *
  have hsix := eth_six tag v X
  have hpk := eth_pkt tag v X
  have hnet := eth_net tag v X
  have hdr : (ethB tag v ++ X).drop (hN tag + hH v) = SG ++ R := by
    rw [← hX, ← List.append_assoc]
    exact drop_app _ _ _ (by rw [List.length_append, ethB_len, hh]; rfl)
  have hsg : sgm (ethB tag v ++ X) = SG := by
    unfold sgm
    rw [hsix, hpk, hnet, k2, k3]
    show ((ethB tag v ++ X).drop (hN tag + hH v)).take _ = _
    rw [hdr, Nat.add_sub_cancel_left]
    exact take_app _ _ _ hn
  have hrr : rr (ethB tag v ++ X) = 0 := by
    unfold rr
    rw [hsix, hpk, hnet, k1, k4, hsg, h0]; rfl
  refine ⟨?_, ?_, hrr, ?_, ?_, ?_⟩
  · rw [← hX, List.length_append, List.length_append, List.length_append, ethB_len, hh, hn]; unfold hH; omega
  · rw [hsg, hSG]
  · unfold vw keyF
    rw [if_pos hrr, hsix, hpk, hnet, k2, k3, k4, k5, k6, hsg, hu0, hu2, hfl]
    show vcells v (hN tag) (hN tag + hH v) (hN tag + (hH v + _)) _ _ = _
    rw [Nat.add_assoc]
  · unfold gf
    rw [hsix, hpk, hsg, k4, lA_of v X S k5 hS k1, lB_of v X D k6 hD k1, hrr, hgd]; rfl
  · unfold lys
    rw [hsix, hpk, hnet, k1, k4, hsg, h0, k2, eth_ly]
    rfl
theorem mk4_cut (s d data : List Nat) (p n : Nat) (hs1 : s.length = 4) (hd1 : d.length = 4) (hn2 : n ≤ 65515) (c : Nat) (hc : c < 20 + n) (hl : c ≤ 20 + data.length) : ff ((mk4 s d p n ++ data).take c) = 1 := by
  obtain ⟨s0, s1, s2, s3, rfl⟩ := list4 s hs1
  obtain ⟨d0, d1, d2, d3, rfl⟩ := list4 d hd1
  obtain ⟨x, y, e⟩ := mk4_lit s0 s1 s2 s3 d0 d1 d2 d3 p n
  rw [e]
  by_cases h20 : c < 20
  · unfold ff
    rw [if_pos (by rw [List.length_take]; omega)]
  · obtain ⟨c', rfl⟩ : ∃ c', c = 20 + c' := ⟨c - 20, by omega⟩
    have et : (([69, 0, (20 + n) / 256 % 256, (20 + n) % 256, 0, 0, 64, 0, 64, p, x, y, s0, s1, s2, s3, d0, d1, d2, d3] : List Nat) ++ data).take (20 + c') = [69, 0, (20 + n) / 256 % 256, (20 + n) % 256, 0, 0, 64, 0, 64, p, x, y, s0, s1, s2, s3, d0, d1, d2, d3] ++ data.take c' := by
      rw [List.take_append, List.take_of_length_le (by simp)]
      simp
    rw [et]
    have g0 : (([69, 0, (20 + n) / 256 % 256, (20 + n) % 256, 0, 0, 64, 0, 64, p, x, y, s0, s1, s2, s3, d0, d1, d2, d3] : List Nat) ++ data.take c').getD 0 0 = 69 := rfl
    have g2 : u2 (([69, 0, (20 + n) / 256 % 256, (20 + n) % 256, 0, 0, 64, 0, 64, p, x, y, s0, s1, s2, s3, d0, d1, d2, d3] : List Nat) ++ data.take c') 2 = 20 + n := by
      show (20 + n) / 256 % 256 * 256 + (20 + n) % 256 = 20 + n
      omega
    have gl : (([69, 0, (20 + n) / 256 % 256, (20 + n) % 256, 0, 0, 64, 0, 64, p, x, y, s0, s1, s2, s3, d0, d1, d2, d3] : List Nat) ++ data.take c').length = 20 + c' := by
      rw [List.length_append, List.length_take]; simp; omega
    unfold ff
    rw [gl, g2]
    unfold hs
    rw [g0, if_neg (by omega), if_neg (by omega), if_pos (by omega)]
/-- Cut off within its packet. -/
theorem cut8 (v : Bool) (S D : List Nat) (p sp dp f : Nat) (data : List Nat) (tag bare : Bool) (R : List Nat) (hp : p = 6 ∨ p = 17) (hS : S.length = 16) (hD : D.length = 16)
    (hl : data.length ≤ 1500) (k : Nat) (hk : k < hN tag + hH v + (hsz p + data.length)) :
    rr ((frR v S D p sp dp f data tag bare R).take k) = 1 ∧ lys ((frR v S D p sp dp f data tag bare R).take k) = if k < hN tag then [] else lyE tag := by
  have hn := segB_len p hp v S D sp dp f data bare
  have hz : hsz p ≤ 20 := by unfold hsz; split <;> omega
  have hh := headB_len v S D p (hsz p + data.length) hS hD
  unfold frR
  generalize segB p v S D sp dp f data bare = SG at *
  have he := ethB_len tag v
  have hlen : (ethB tag v ++ (headB v S D p (hsz p + data.length) ++ (SG ++ R))).length = hN tag + (hH v + (hsz p + data.length + R.length)) := by
    rw [List.length_append, List.length_append, List.length_append, he, hh, hn]; rfl
  by_cases hkt : k < hN tag
  · rw [if_pos hkt]
    have hl2 : ((ethB tag v ++ (headB v S D p (hsz p + data.length) ++ (SG ++ R))).take k).length = k := by rw [List.length_take]; omega
    have hnet : net ((ethB tag v ++ (headB v S D p (hsz p + data.length) ++ (SG ++ R))).take k) = (0, 0, 1) := by
      by_cases h14 : k < 14
      · exact net_short _ (by rw [hl2]; exact h14)
      · cases tag with
        | false => exact absurd hkt h14
        | true =>
          refine net_cut _ (by rw [hl2]; exact h14) ?_ (by rw [hl2]; exact hkt)
          have e : (ethB true v ++ (headB v S D p (hsz p + data.length) ++ (SG ++ R))).take k = (ethB true v).take 14 ++ ((ethB true v ++ (headB v S D p (hsz p + data.length) ++ (SG ++ R))).drop 14).take (k - 14) := by
            have := List.take_add (l := ethB true v ++ (headB v S D p (hsz p + data.length) ++ (SG ++ R))) (i := 14) (j := k - 14)
            rw [show 14 + (k - 14) = k by omega] at this
            rw [this, List.take_append_of_le_length (by rw [he]; show 14 ≤ 18; omega)]
          rw [e, u2_app' _ _ 12 (by rw [List.length_take, he]; show 14 ≤ min 14 18; omega)]
          cases v <;> rfl
    have h1 : rr ((ethB tag v ++ (headB v S D p (hsz p + data.length) ++ (SG ++ R))).take k) = 1 := by unfold rr; rw [hnet]; rfl
    refine ⟨h1, ?_⟩
    unfold lys; rw [hnet]; rfl
  · rw [if_neg hkt]
    have e : (ethB tag v ++ (headB v S D p (hsz p + data.length) ++ (SG ++ R))).take k = ethB tag v ++ (headB v S D p (hsz p + data.length) ++ (SG ++ R)).take (k - hN tag) := by
      rw [List.take_append, he, List.take_of_length_le (by rw [he]; omega)]
    have hc : fhr v ((headB v S D p (hsz p + data.length) ++ (SG ++ R)).take (k - hN tag)) = 1 := by
      cases v with
      | true =>
        exact mk6_cut S D (SG ++ R) p _ hS hD (by omega) _ (by have : hH true = 40 := rfl; omega) (by rw [List.length_append]; have : hH true = 40 := rfl; omega)
      | false =>
        exact mk4_cut (S.take 4) (D.take 4) (SG ++ R) p _ (by simp [hS]) (by simp [hD]) (by omega) _ (by have : hH false = 20 := rfl; omega) (by rw [List.length_append]; have : hH false = 20 := rfl; omega)
    rw [e]
    generalize (headB v S D p (hsz p + data.length) ++ (SG ++ R)).take (k - hN tag) = X at *
    have h1 : rr (ethB tag v ++ X) = 1 := by unfold rr; rw [eth_net, eth_six, eth_pkt, hc]; rfl
    refine ⟨h1, ?_⟩
    unfold lys
    rw [eth_net, eth_six, eth_pkt, hc, eth_ly]; rfl
end Go.Proofs.Ytopfbgoiehlhbaa

/- bazaarref1.Build: the frame as a slice; the flows to a VIP. -/
namespace Go.Proofs.Ytopfbgoiehlhbaa
open Go.RowKit

/-- The addresses of a flow. -/
def sV (u : Nat) : List Nat := kS u ++ List.replicate 12 0
def dV : List Nat := kD ++ List.replicate 12 0
theorem sV_len (u : Nat) : (sV u).length = 16 := rfl
theorem dV_len : dV.length = 16 := rfl
theorem sV_lt (u : Nat) : ∀ c ∈ sV u, c < 256 := by
  intro c hc
  rcases List.mem_append.1 hc with h | h
  · simp [kS] at h; omega
  · rw [List.eq_of_mem_replicate h]; omega
theorem dV_lt : ∀ c ∈ dV, c < 256 := by decide
theorem sV_v (v : Bool) (u : Nat) : vldA v (sV u) = true := by
  unfold vldA sV kS
  simp only [Bool.or_eq_true]
  right
  rfl
theorem dV_v (v : Bool) : vldA v dV = true := by cases v <;> rfl
/-- The protocol's number. -/
def pr (udp : Bool) : Nat := if udp then 17 else 6
theorem pr_or (udp : Bool) : pr udp = 6 ∨ pr udp = 17 := by cases udp; exact .inl rfl; exact .inr rfl
/-- A flow's cells. -/
def flow (u : Nat) (v udp : Bool) : Array Value := kcells (pr udp) (cellsA v (sV u)) (cellsA v dV) (1000 + u % 50000) 80
theorem flow_size (u : Nat) (v udp : Bool) : (flow u v udp).size = 37 := kcells_size _ _ _ _ _ (by rw [cellsA_size, sV_len]) (by rw [cellsA_size, dV_len])
theorem flow_all (u : Nat) (v udp : Bool) : (flow u v udp).all (·.oneCell') = true := kcells_all _ _ _ _ _ (cellsA_all _ _) (cellsA_all _ _)
theorem flow_any (n : Int) (v udp : Bool) (w : World) : Calls Try.prog 17 #[.int .i64 n, .bool v, .bool udp] w fun e w' => e = .returned (.agg (flow (n % 1073741824).toNat v udp)) ∧ Below w.heap.size w w' := key_any n v udp w
/-- The frame of a flow. -/
def fB8 (u : Nat) (v udp : Bool) (f : Nat) (data : List Nat) (tag bare : Bool) (R : List Nat) : List Nat := frR v (sV u) dV (pr udp) (1000 + u % 50000) 80 f data tag bare R
theorem fB8_told (u : Nat) (v udp : Bool) (f : Nat) (data : List Nat) (tag bare : Bool) (R : List Nat) (hl : data.length ≤ 1500) : Told8 v (sV u) dV (pr udp) (1000 + u % 50000) 80 f data tag bare R (fB8 u v udp f data tag bare R) :=
  told8 _ _ _ _ _ _ _ _ _ _ _ (pr_or udp) (sV_len u) dV_len (sV_v v u) (dV_v v) hl (by omega) (by omega)
theorem fB8_lt (u : Nat) (v udp : Bool) (f : Nat) (data : List Nat) (tag bare : Bool) (pad : Nat) (hf : f < 256) (hd : ∀ c ∈ data, c < 256) : ∀ c ∈ fB8 u v udp f data tag bare (List.replicate pad 0), c < 256 := by
  unfold fB8; rw [← frmB_R]
  exact frmB_lt v _ _ _ _ _ f data tag bare pad (by have := pr_or udp; omega) (sV_len u) dV_len (sV_lt u) dV_lt hf hd
theorem fB8_any (u : Nat) (v udp : Bool) (f : Nat) (pad : Nat) (a : Option Addr) (la ca : Nat) (zs : List Nat) (tag bare : Bool) (w : World) (hr : Rd w (.slice a la ca) (nus .u8 zs)) (hL : zs.length = la) (hna : a = none → ca = 0) (hb : ∀ c ∈ zs, c < 256) (hz : la ≤ 1500) (hf : f < 256) (hpad : pad ≤ 100) :
    Calls Try.prog 18 #[.agg (flow u v udp), .int .u8 (f : Int), .slice a la ca, .bool tag, .bool bare, .int .i64 (pad : Int)] w fun e w' => ∃ g c, e = .returned (.slice (some ⟨g, 0, none⟩) (fB8 u v udp f zs tag bare (List.replicate pad 0)).length c) ∧
      w'.ownsRow w.heap.size 5 1 (.slice (some ⟨g, 0, none⟩) (fB8 u v udp f zs tag bare (List.replicate pad 0)).length c) (fB8 u v udp f zs tag bare (List.replicate pad 0)).length (nus .u8 (fB8 u v udp f zs tag bare (List.replicate pad 0))) ∧ Below w.heap.size w w' := by
  refine (build_any (pr udp) (pr_or udp) v (sV u) dV (1000 + u % 50000) 80 f pad a la ca zs tag bare w hr hL hna hb (by omega) (sV_len u) dV_len (sV_lt u) dV_lt (sV_v v u) (dV_v v) (by omega) (by omega) hf hpad).mono ?_
  rintro e w' ⟨x, n, rfl, ho, hB⟩
  have e0 : frmB v (sV u) dV (pr udp) (1000 + u % 50000) 80 f zs tag bare pad = fB8 u v udp f zs tag bare (List.replicate pad 0) := frmB_R _ _ _ _ _ _ _ _ _ _ _
  rw [e0] at ho
  have hlen : (fB8 u v udp f zs tag bare (List.replicate pad 0)).length = n := by have := ho.1; rw [nus_length] at this; omega
  have ht := (fB8_told u v udp f zs tag bare (List.replicate pad 0) (by omega)).len
  subst hlen
  obtain ⟨g, c, rfl, -, -, -, -⟩ := own_at ho (by rw [ht]; unfold hN; split <;> omega)
  exact ⟨g, c, rfl, ho, hB⟩
end Go.Proofs.Ytopfbgoiehlhbaa

/- ether.Net, chksum.Check, addr.From of bytes that are an address. -/
namespace Go.Proofs.Ytopfbgoiehlhbaa
open Go.RowKit
set_option maxRecDepth 100000 in
set_option maxHeartbeats 800000 in
theorem net_any (v : Value) (zs : List Nat) (w : World) (hr : Rd w v (nus .u8 zs)) (hb : ∀ c ∈ zs, c < 256) :
    Calls Try.prog 19 #[v] w fun e w' => e = .returned (.tuple #[.int .i64 ((net zs).1 : Nat), .int .u16 ((net zs).2.1 : Nat), .int .i64 ((net zs).2.2 : Nat)]) ∧ w = w' := by
  have HR := Lib.hid hr
  have HB := Lib.hid hb
  obtain ⟨a, cap, rfl, hlc, hl, -⟩ := hr
  rw [nus_length] at hlc HR ⊢
  have hk1 := u2_lt zs 12 hb
  have hk2 := u2_lt zs 16 hb
  clear hb
  have hlm : zs.length ≤ maxLen := Nat.le_trans hlc hl
  clear hl hlc
  by_cases h14 : zs.length < 14
  · rw [net_short zs h14]
    go_enter Try.func19, Try.ntmps19
    go_wp2_with fail
    refine (get16_no _ _ _ 12 _ hlm (.inr (by omega))).mono ?_; rintro e w' ⟨rfl, rfl⟩
    go_wp2
    go_ret3
    exact ⟨rfl, rfl⟩
  · have hk := be_u2 zs 12 (by omega)
    by_cases hv : u2 zs 12 = 33024
    · by_cases h18 : zs.length < 18
      · rw [net_cut zs h14 hv h18]
        go_enter Try.func19, Try.ntmps19
        go_wp2_with fail
        refine (get16_yes _ 12 zs _ HR.out HB.out (by omega)).mono ?_; rintro e w' ⟨rfl, rfl⟩
        rw [hk, hv]
        go_wp2_with fail
        refine (get16_no _ _ _ 16 _ hlm (.inr (by omega))).mono ?_; rintro e w' ⟨rfl, rfl⟩
        go_wp2
        go_ret3
        exact ⟨rfl, rfl⟩
      · have hl := be_u2 zs 16 (by omega)
        rw [net_tag zs h14 hv h18]
        obtain ⟨kd, hK⟩ : ∃ kd, kd = u2 zs 16 := ⟨_, rfl⟩
        rw [← hK] at hl hk2 ⊢
        clear hK
        go_enter Try.func19, Try.ntmps19
        go_wp2_with fail
        refine (get16_yes _ 12 zs _ HR.out HB.out (by omega)).mono ?_; rintro e w' ⟨rfl, rfl⟩
        rw [hk, hv]
        go_wp2_with fail
        refine (get16_yes _ 16 zs _ HR.out HB.out (by omega)).mono ?_; rintro e w' ⟨rfl, rfl⟩
        rw [hl]
        clear hk hl hv hk1
        by_cases h1 : kd = 2048
        · subst h1
          go_wp2
          go_ret3
          exact ⟨rfl, rfl⟩
        · by_cases h2 : kd = 34525
          · subst h2
            go_wp2
            go_ret3
            exact ⟨rfl, rfl⟩
          · have en := Lib.hid (netK_no 18 kd h1 h2)
            have g1 : ((kd : Int) != 2048) = true := by simp; omega
            have g2 : ((kd : Int) != 34525) = true := by simp; omega
            clear h1 h2
            go_wp2
            go_ret3
            exact ⟨by rw [en.out]; rfl, rfl⟩
    · rw [net_bare zs h14 hv]
      obtain ⟨kd, hK⟩ : ∃ k, k = u2 zs 12 := ⟨_, rfl⟩
      rw [← hK] at hk hk1 hv ⊢
      clear hK
      go_enter Try.func19, Try.ntmps19
      go_wp2_with fail
      refine (get16_yes _ 12 zs _ HR.out HB.out (by omega)).mono ?_; rintro e w' ⟨rfl, rfl⟩
      rw [hk]
      clear hk hk2
      have g0 : ((kd : Int) == 33024) = false := by simp; omega
      clear hv
      by_cases h1 : kd = 2048
      · subst h1
        go_wp2
        go_ret3
        exact ⟨rfl, rfl⟩
      · by_cases h2 : kd = 34525
        · subst h2
          go_wp2
          go_ret3
          exact ⟨rfl, rfl⟩
        · have en := Lib.hid (netK_no 14 kd h1 h2)
          have g1 : ((kd : Int) != 2048) = true := by simp; omega
          have g2 : ((kd : Int) != 34525) = true := by simp; omega
          clear h1 h2
          go_wp2
          go_ret3
          exact ⟨by rw [en.out]; rfl, rfl⟩
set_option maxRecDepth 100000 in
set_option maxHeartbeats 400000 in
theorem check_any (va : Value) (zs : List Nat) (w : World) (hr : Rd w va (nus .u8 zs)) (hz : zs.length ≤ 140737488351232) (hb : ∀ c ∈ zs, c < 256) :
    Calls Try.prog 80 #[va] w fun e w' => e = .returned (.int .u16 (ck zs : Nat)) ∧ Below w.heap.size w w' := by
  have h2 := Lib.hid (not_gr (wsp 0 zs))
  go_enter Try.func80, Try.ntmps80
  go_wp2_with fail
  refine (sum_any va zs 0 w hr hz hb (by omega)).mono ?_
  rintro e w' ⟨rfl, hb⟩
  rw [Nat.zero_add]
  go_wp2
  go_ret
  exact ⟨ret_int h2.out, hb⟩
set_option maxRecDepth 100000 in
set_option maxHeartbeats 2000000 in
theorem from_ok (va : Value) (v : Bool) (bs : List Nat) (w : World) (hr : Rd w va (nus .u8 bs)) (h : bs.length = 4 ∧ v = false ∨ bs.length = 16 ∧ v = true) :
    Calls Try.prog 69 #[va] w fun e w' => e = .returned (.tuple #[adr v (bs ++ List.replicate (16 - bs.length) 0), .int .i64 0]) ∧ Below w.heap.size w w' := by
  obtain ⟨a, cap, rfl, hlc, hc⟩ := rd_shape hr
  have hr1 := hr.below ((((Below.refl w.heap.size w).alloc (Nat.le_refl _) (.cells (cellsA false (List.replicate 16 0)) 26)).alloc (by simp) (.cells (cellsA v (List.replicate 16 0)) 26)))
  obtain ⟨b0, o0, rfl, hcell0⟩ := hr1.cells (by omega)
  clear hr hr1
  rcases h with ⟨h4, rfl⟩ | ⟨h16, rfl⟩
  · have d4 : (((4 : Nat) : Int) != 4) = false := by rfl
    have hcell := hcell0
    obtain ⟨cs, hcs⟩ : ∃ cs, cs = cellsA false (bs ++ List.replicate (16 - bs.length) 0) := ⟨_, rfl⟩
    have hz : cs.size = 17 := by rw [hcs, cellsA_size, List.length_append, List.length_replicate]; omega
    have HZ := Lib.hid (i24.trans (congrArg some hz.symm))
    have HZ2 := Lib.hid (hz.trans (cellsA_size false (List.replicate 16 0)).symm)
    have HAll := Lib.hid (show cs.all (·.oneCell') = true by rw [hcs]; exact cellsA_all _ _)
    have HSP := Lib.hid ((splice_at false bs (by omega)).trans hcs.symm)
    have HC := Lib.hid hcs
    have HL := Lib.hid h4
    have HO := Lib.hid ((Blk.new w 26 (cellsA false (List.replicate 16 0))).alloc (.cells (cellsA false (List.replicate 16 0)) 26))
    have HN := Lib.hid (show Blk ((w.alloc (.cells (cellsA false (List.replicate 16 0)) 26)).alloc (.cells (cellsA false (List.replicate 16 0)) 26)) (w.heap.size + 1) 26 (cellsA false (List.replicate 16 0)) by
      have := Blk.new (w.alloc (.cells (cellsA false (List.replicate 16 0)) 26)) 26 (cellsA false (List.replicate 16 0)); rw [World.size_alloc] at this; exact this)
    have HCE := Lib.hid hcell
    have HB := Lib.hid ((((Below.refl w.heap.size w).alloc (Nat.le_refl _) (.cells (cellsA false (List.replicate 16 0)) 26)).alloc (by simp) (.cells (cellsA false (List.replicate 16 0)) 26)))
    clear hcell hcell0 hz hcs
    rw [HL.out]
    clear d4
    have d4 : (((4 : Int)) != 4) = false := by rfl
    clear d4
    go_enter Try.func69, Try.ntmps69
    go_wp2_with ((with_reducible refine wpList_copy_splice (o := ⟨some 21, _, _, _, _, _⟩) rfl (.tmp 19) (.tmp 20) 22 22 rfl 5 Try.underlying22 info5_size _ _ _ _ _ _ rfl rfl (w.heap.size + 1) 1 (cellsA false (List.replicate 16 0)).toList 26 ?cg4 (nus .u8 bs) ?cn4 ?cp4 ?cf4 ?co4 (w.heap.size + 1) _ (Below.refl _ _) (Nat.le_refl _) ?_))
    case cg4 => rw [Array.toArray_toList]; exact HN.out
    case cn4 => rw [nus_length, HL.out]; rfl
    case cp4 =>
      intro _ j u hj
      have hjl : j < bs.length := by have := (List.getElem?_eq_some_iff.1 hj).1; rwa [nus_length] at this
      rw [nus_get _ _ _ hjl] at hj
      cases hj
      exact HCE.out j hjl
    case cf4 => rw [nus_length, HL.out]; decide
    case co4 => exact oneCell_nus _ _
    intro W2 hg2 hb2
    have h2 : W2.heap[w.heap.size + 1]? = some (.cells (splice (cellsA false (List.replicate 16 0)).toList 1 (nus .u8 bs)).toArray 26 (0, 0)) := hg2.out
    rw [HSP.out] at h2
    have HW2 := Lib.hid (show Blk W2 (w.heap.size + 1) 26 cs from h2)
    have HO2 := Lib.hid (show Blk W2 w.heap.size 26 (cellsA false (List.replicate 16 0)) from (hb2.block _ (Nat.lt_succ_self _)).trans HO.out)
    have HB2 := Lib.hid (HB.out.trans (hb2.mono (Nat.le_succ _)))
    clear h2 hg2 hb2
    go_wp2_with (first
      | ((with_reducible refine wpList_blk_load (op := ⟨some 22, .load 26 (.tmp 4), _, _, _, _⟩) ?lg1 26 (.tmp 4) ?lo1 (w.heap.size + 1) ?lx1 _ HW2.out Try.underlying26 ?ld1 HZ.out ?_); (case lg1 => rfl); (case lo1 => rfl); (case lx1 => rfl); (case ld1 => rfl))
      | ((with_reducible refine wpList_blk_store (op := ⟨none, .store 26 (.tmp 2) (.tmp 22), _, _, _, _⟩) ?sg1 26 (.tmp 2) (.tmp 22) ?so1 w.heap.size cs ?sx1 ?sy1 HO2.out HZ2.out HZ.out HAll.out ?_); (case sg1 => rfl); (case so1 => rfl); (case sx1 => rfl); (case sy1 => rfl)))
    intro w3 hA hF hB
    have HF := Lib.hid hF
    have HA := Lib.hid hA
    clear hF hA
    go_wp2
    have hrun := run_blk_load (P := Try.prog) 26 w.heap.size _ HA.out Try.underlying26 rfl HZ.out
    refine bodyPost_ret (results_cell_tmp 2 26 3 w.heap.size _ Try.results69 rfl hrun) rfl ⟨?_, HB2.out.trans (hB _ (Nat.le_refl _))⟩
    rw [HC.out, HL.out]
    rfl
  · have d4 : (((16 : Nat) : Int) != 4) = true := by rfl
    have hcell := hcell0
    obtain ⟨cs, hcs⟩ : ∃ cs, cs = cellsA true (bs ++ List.replicate (16 - bs.length) 0) := ⟨_, rfl⟩
    have hz : cs.size = 17 := by rw [hcs, cellsA_size, List.length_append, List.length_replicate]; omega
    have HZ := Lib.hid (i24.trans (congrArg some hz.symm))
    have HZ2 := Lib.hid (hz.trans (cellsA_size false (List.replicate 16 0)).symm)
    have HAll := Lib.hid (show cs.all (·.oneCell') = true by rw [hcs]; exact cellsA_all _ _)
    have HSP := Lib.hid ((splice_at true bs (by omega)).trans hcs.symm)
    have HC := Lib.hid hcs
    have HL := Lib.hid h16
    have HO := Lib.hid ((Blk.new w 26 (cellsA false (List.replicate 16 0))).alloc (.cells (cellsA true (List.replicate 16 0)) 26))
    have HN := Lib.hid (show Blk ((w.alloc (.cells (cellsA false (List.replicate 16 0)) 26)).alloc (.cells (cellsA true (List.replicate 16 0)) 26)) (w.heap.size + 1) 26 (cellsA true (List.replicate 16 0)) by
      have := Blk.new (w.alloc (.cells (cellsA false (List.replicate 16 0)) 26)) 26 (cellsA true (List.replicate 16 0)); rw [World.size_alloc] at this; exact this)
    have HCE := Lib.hid hcell
    have HB := Lib.hid ((((Below.refl w.heap.size w).alloc (Nat.le_refl _) (.cells (cellsA false (List.replicate 16 0)) 26)).alloc (by simp) (.cells (cellsA true (List.replicate 16 0)) 26)))
    clear hcell hcell0 hz hcs
    rw [HL.out]
    clear d4
    have d4 : (((4 : Int)) != 4) = false := by rfl
    clear d4
    go_enter Try.func69, Try.ntmps69
    go_wp2_with ((with_reducible refine wpList_copy_splice (o := ⟨some 21, _, _, _, _, _⟩) rfl (.tmp 19) (.tmp 20) 22 22 rfl 5 Try.underlying22 info5_size _ _ _ _ _ _ rfl rfl (w.heap.size + 1) 1 (cellsA true (List.replicate 16 0)).toList 26 ?cg16 (nus .u8 bs) ?cn16 ?cp16 ?cf16 ?co16 (w.heap.size + 1) _ (Below.refl _ _) (Nat.le_refl _) ?_))
    case cg16 => rw [Array.toArray_toList]; exact HN.out
    case cn16 => rw [nus_length, HL.out]; rfl
    case cp16 =>
      intro _ j u hj
      have hjl : j < bs.length := by have := (List.getElem?_eq_some_iff.1 hj).1; rwa [nus_length] at this
      rw [nus_get _ _ _ hjl] at hj
      cases hj
      exact HCE.out j hjl
    case cf16 => rw [nus_length, HL.out]; decide
    case co16 => exact oneCell_nus _ _
    intro W2 hg2 hb2
    have h2 : W2.heap[w.heap.size + 1]? = some (.cells (splice (cellsA true (List.replicate 16 0)).toList 1 (nus .u8 bs)).toArray 26 (0, 0)) := hg2.out
    rw [HSP.out] at h2
    have HW2 := Lib.hid (show Blk W2 (w.heap.size + 1) 26 cs from h2)
    have HO2 := Lib.hid (show Blk W2 w.heap.size 26 (cellsA false (List.replicate 16 0)) from (hb2.block _ (Nat.lt_succ_self _)).trans HO.out)
    have HB2 := Lib.hid (HB.out.trans (hb2.mono (Nat.le_succ _)))
    clear h2 hg2 hb2
    go_wp2_with (first
      | ((with_reducible refine wpList_blk_load (op := ⟨some 22, .load 26 (.tmp 4), _, _, _, _⟩) ?lg2 26 (.tmp 4) ?lo2 (w.heap.size + 1) ?lx2 _ HW2.out Try.underlying26 ?ld2 HZ.out ?_); (case lg2 => rfl); (case lo2 => rfl); (case lx2 => rfl); (case ld2 => rfl))
      | ((with_reducible refine wpList_blk_store (op := ⟨none, .store 26 (.tmp 2) (.tmp 22), _, _, _, _⟩) ?sg2 26 (.tmp 2) (.tmp 22) ?so2 w.heap.size cs ?sx2 ?sy2 HO2.out HZ2.out HZ.out HAll.out ?_); (case sg2 => rfl); (case so2 => rfl); (case sx2 => rfl); (case sy2 => rfl)))
    intro w3 hA hF hB
    have HF := Lib.hid hF
    have HA := Lib.hid hA
    clear hF hA
    go_wp2
    have hrun := run_blk_load (P := Try.prog) 26 w.heap.size _ HA.out Try.underlying26 rfl HZ.out
    refine bodyPost_ret (results_cell_tmp 2 26 3 w.heap.size _ Try.results69 rfl hrun) rfl ⟨?_, HB2.out.trans (hB _ (Nat.le_refl _))⟩
    rw [HC.out, HL.out]
    rfl
set_option maxRecDepth 100000 in
theorem from_adr (v : Bool) (bs : List Nat) (hl : bs.length = 16) (hv : validA v bs) (z : Value) (w : World) (hr : Rd w z (nus .u8 (bytesA v bs))) :
    Calls Try.prog 69 #[z] w fun e w' => e = .returned (.tuple #[adr v bs, .int .i64 0]) ∧ Below w.heap.size w w' := by
  cases v with
  | true =>
    have h := from_ok z true bs w hr (.inr ⟨hl, rfl⟩)
    rw [hl] at h
    simpa using h
  | false =>
    have h4 : (bs.take 4).length = 4 := by simp [hl]
    have h := from_ok z false (bs.take 4) w hr (.inl ⟨h4, rfl⟩)
    have e : bs.take 4 ++ List.replicate (16 - (bs.take 4).length) 0 = bs := by
      rw [h4]
      rcases hv with hv | hv
      · cases hv
      · refine ext_getD _ _ 0 (by simp [hl]) fun i hi => ?_
        have hi16 : i < 16 := by simpa [hl] using hi
        by_cases h : i < 4
        · rw [List.getD_eq_getElem?_getD, List.getElem?_append_left (by rw [h4]; exact h), List.getElem?_take_of_lt h, ← List.getD_eq_getElem?_getD]
        · rw [hv i (by omega) hi16, List.getD_eq_getElem?_getD, List.getElem?_append_right (by rw [h4]; omega), h4, List.getElem?_replicate]
          split <;> rfl
    rw [e] at h
    exact h
end Go.Proofs.Ytopfbgoiehlhbaa

