/- Texts that the walks of this seat lean on, put together. -/
import Derived.Handy
import Derived.BigQuiet
import Derived.Deep.QuietTactic
import Derived.LoopTactic
import Derived.Test.YtnpibdjfafpegaaTk
import Derived.Test.YtnpibdjfafpegaaM03
import Derived.Test.YtnpibdjfafpegaaM10
import Derived.Test.YtnpibdjfafpegaaM13
import Derived.Test.YtnpibdjfafpegaaM14
import Derived.Test.YtnpibdjfafpegaaM16
import Derived.Test.YtnpibdjfafpegaaM19
import Derived.Test.YtnpibdjfafpegaaM20
import Derived.Test.YtnpibdjfafpegaaM21
import Derived.Test.YtnpibdjfafpegaaM22
namespace Go.Proofs.Ytnpibdjfafpegaa
open Go.RowKit
def psd (v : Bool) (S D : List Nat) (p n : Nat) : List Nat := bytesA v S ++ bytesA v D ++ (if v then bg 4 n ++ [0, 0, 0, p] else [0, p] ++ bg 2 n)
theorem psd_lt (v : Bool) (S D : List Nat) (p n : Nat) (hS : ∀ c ∈ S, c < 256) (hD : ∀ c ∈ D, c < 256) (hp : p < 256) : ∀ c ∈ psd v S D p n, c < 256 := by
  intro c hc
  unfold psd at hc
  rcases List.mem_append.1 hc with h | h
  · rcases List.mem_append.1 h with h | h
    · exact bytesA_lt v S hS c h
    · exact bytesA_lt v D hD c h
  · cases v with
    | true =>
      rcases List.mem_append.1 h with h | h
      · exact bg_lt 4 n c h
      · simp at h; omega
    | false =>
      rcases List.mem_append.1 h with h | h
      · simp at h; omega
      · exact bg_lt 2 n c h
theorem psd_len (v : Bool) (S D : List Nat) (p n : Nat) (hS : S.length = 16) (hD : D.length = 16) : (psd v S D p n).length = if v then 40 else 12 := by
  unfold psd
  rw [List.length_append, List.length_append, bytesA_len v S hS, bytesA_len v D hD]
  cases v <;> simp [bg_length]
end Go.Proofs.Ytnpibdjfafpegaa
namespace Go.Proofs.Ytnpibdjfafpegaa
open Go.RowKit
def tsum (p : Nat) (zs : List Nat) (v : Bool) (S D : List Nat) : Nat := wsp 0 (psd v S D p zs.length) + wsp 0 zs
def gd (p : Nat) (zs : List Nat) (v1 : Bool) (S : List Nat) (v2 : Bool) (D : List Nat) : Bool :=
  decide (fs p zs = 0 ∧ v1 = v2) && (wo p zs || decide (gr (tsum p zs v1 S D) = 65535))
theorem wsp_joined (v : Bool) (S D : List Nat) (p : Nat) (zs : List Nat) (hS : S.length = 16) (hD : D.length = 16) : wsp 0 (psd v S D p zs.length ++ zs) = tsum p zs v S D := by
  unfold tsum
  rw [wsp_append, psd_len v S D p _ hS hD]
  congr 1
  exact wsp_eq _ _ _ (by split <;> rfl)
end Go.Proofs.Ytnpibdjfafpegaa
namespace Go.Proofs.Ytnpibdjfafpegaa
open Go.RowKit
def midB (p f m : Nat) : List Nat := if p = 6 then [0, 0, 0, 0, 0, 0, 0, 0, 80, f, 0, 0, 0, 0, 0, 0] else bg 2 (8 + m) ++ [0, 0]
def seg0 (p sp dp f : Nat) (data : List Nat) : List Nat := bg 2 sp ++ bg 2 dp ++ midB p f data.length ++ data
def hsz (p : Nat) : Nat := if p = 6 then 20 else 8
theorem midB_len (p f m : Nat) : (midB p f m).length + 4 = hsz p := by unfold midB hsz; split <;> simp [bg_length]
theorem seg0_len (p sp dp f : Nat) (data : List Nat) : (seg0 p sp dp f data).length = hsz p + data.length := by
  have := midB_len p f data.length
  unfold seg0; simp only [List.length_append, bg_length]; omega
theorem midB_lt (p f m : Nat) (hf : f < 256) : ∀ c ∈ midB p f m, c < 256 := by
  intro c hc
  unfold midB at hc
  split at hc
  · simp at hc; omega
  · rcases List.mem_append.1 hc with h | h
    · exact bg_lt 2 _ c h
    · simp at h; omega
theorem seg0_lt (p sp dp f : Nat) (data : List Nat) (hf : f < 256) (hd : ∀ c ∈ data, c < 256) : ∀ c ∈ seg0 p sp dp f data, c < 256 := by
  intro c hc
  unfold seg0 at hc
  rcases List.mem_append.1 hc with h | h
  · rcases List.mem_append.1 h with h | h
    · rcases List.mem_append.1 h with h | h
      · exact bg_lt 2 _ c h
      · exact bg_lt 2 _ c h
    · exact midB_lt p f _ hf c h
  · exact hd c h
def ckB (p : Nat) (v : Bool) (S D : List Nat) (s0 : List Nat) : Nat :=
  if p = 17 ∧ 65535 - gr (tsum p s0 v S D) = 0 then 65535 else 65535 - gr (tsum p s0 v S D)
theorem ckB_lt (p : Nat) (v : Bool) (S D s0 : List Nat) : ckB p v S D s0 < 65536 := by unfold ckB; split <;> omega
def segB (p : Nat) (v : Bool) (S D : List Nat) (sp dp f : Nat) (data : List Nat) (bare : Bool) : List Nat :=
  if p = 17 ∧ bare = true then seg0 p sp dp f data else ov (seg0 p sp dp f data) (bg 2 (ckB p v S D (seg0 p sp dp f data))) (sAt p)
theorem segB_len (p : Nat) (hp : p = 6 ∨ p = 17) (v : Bool) (S D : List Nat) (sp dp f : Nat) (data : List Nat) (bare : Bool) : (segB p v S D sp dp f data bare).length = hsz p + data.length := by
  unfold segB
  split
  · exact seg0_len _ _ _ _ _
  · rw [ov_length _ _ _ (by rw [bg_length, seg0_len]; rcases hp with rfl | rfl <;> simp [sAt, hsz] <;> omega), seg0_len]
theorem segB_lt (p : Nat) (v : Bool) (S D : List Nat) (sp dp f : Nat) (data : List Nat) (bare : Bool) (hf : f < 256) (hd : ∀ c ∈ data, c < 256) : ∀ c ∈ segB p v S D sp dp f data bare, c < 256 := by
  unfold segB
  split
  · exact seg0_lt _ _ _ _ _ hf hd
  · exact ov_lt _ _ _ (seg0_lt _ _ _ _ _ hf hd) (bg_lt 2 _)
def ethB (tag v : Bool) : List Nat := [1, 2, 3, 4, 5, 6, 7, 8, 9, 10, 11, 12] ++ (if tag then [129, 0, 0, 7] else []) ++ (if v then [134, 221] else [8, 0])
def headB (v : Bool) (S D : List Nat) (p n : Nat) : List Nat := if v then mk6 S D p n else mk4 (S.take 4) (D.take 4) p n
def frmB (v : Bool) (S D : List Nat) (p sp dp f : Nat) (data : List Nat) (tag bare : Bool) (pad : Nat) : List Nat :=
  ethB tag v ++ headB v S D p (hsz p + data.length) ++ segB p v S D sp dp f data bare ++ List.replicate pad 0
def f12 (j : Nat) : List Nat := (List.range 12).map fun i => if i < j then i + 1 else 0
theorem f12_len (j : Nat) : (f12 j).length = 12 := by simp [f12]
theorem f12_zero : f12 0 = List.replicate 12 0 := by decide
theorem f12_all : f12 12 = [1, 2, 3, 4, 5, 6, 7, 8, 9, 10, 11, 12] := by decide
theorem f12_step (j : Nat) (h : j < 12) : (f12 j).set j (j + 1) = f12 (j + 1) := by
  have : ∀ j : Fin 12, (f12 j.1).set j.1 (j.1 + 1) = f12 (j.1 + 1) := by decide
  exact this ⟨j, h⟩
end Go.Proofs.Ytnpibdjfafpegaa
namespace Go.Proofs.Ytnpibdjfafpegaa
open Go.RowKit
theorem take_app {α : Type} (a b : List α) (n : Nat) (h : a.length = n) : (a ++ b).take n = a := by subst h; simp
theorem drop_app {α : Type} (a b : List α) (n : Nat) (h : a.length = n) : (a ++ b).drop n = b := by subst h; simp
theorem bg2 (n : Nat) : bg 2 n = [n / 256 % 256, n % 256] := rfl
theorem mk6_cons (s d data : List Nat) (p n : Nat) : mk6 s d p n ++ data = [96, 0, 0, 0, n / 256 % 256, n % 256, p, 64] ++ (s ++ (d ++ data)) := by
  simp [mk6, bg2]
theorem mk6_u2 (s d data : List Nat) (p n : Nat) (hn : n ≤ 65535) : u2 (mk6 s d p n ++ data) 4 = n := by
  rw [mk6_cons]
  simp [u2]; omega
theorem mk6_f (s d data : List Nat) (p n : Nat) (hs : s.length = 16) (hd : d.length = 16) (hn : n ≤ 65535) (hp : p = 6 ∨ p = 17) (hl : n ≤ data.length) : f6 (mk6 s d p n ++ data) = 0 := by
  have hlen : (mk6 s d p n ++ data).length = 40 + data.length := by rw [List.length_append, mk6_length s d hs hd]
  have h0 : (mk6 s d p n ++ data).getD 0 0 = 96 := rfl
  have h6 : (mk6 s d p n ++ data).getD 6 0 = p := by rw [mk6_cons]; rfl
  unfold f6
  rw [hlen, mk6_u2 s d data p n hn, h0, h6, if_neg (by omega), if_neg (by omega), if_neg (by omega), if_neg (by omega), if_neg (by omega)]
theorem mk6_src (s d data : List Nat) (p n : Nat) (hs : s.length = 16) : ((mk6 s d p n ++ data).drop 8).take 16 = s := by
  rw [mk6_cons, drop_app _ _ 8 rfl, take_app _ _ 16 hs]
theorem mk6_dst (s d data : List Nat) (p n : Nat) (hs : s.length = 16) (hd : d.length = 16) : ((mk6 s d p n ++ data).drop 24).take 16 = d := by
  rw [mk6_cons, show [96, 0, 0, 0, n / 256 % 256, n % 256, p, 64] ++ (s ++ (d ++ data)) = ([96, 0, 0, 0, n / 256 % 256, n % 256, p, 64] ++ s) ++ (d ++ data) by simp, drop_app _ _ 24 (by simp [hs]), take_app _ _ 16 hd]
end Go.Proofs.Ytnpibdjfafpegaa
namespace Go.Proofs.Ytnpibdjfafpegaa
open Go.RowKit
theorem seg0_tcp (sp dp f : Nat) (data : List Nat) : seg0 6 sp dp f data = [sp / 256 % 256, sp % 256, dp / 256 % 256, dp % 256, 0, 0, 0, 0, 0, 0, 0, 0, 80, f, 0, 0, 0, 0, 0, 0] ++ data := by
  simp [seg0, midB, bg2]
theorem seg0_udp (sp dp f : Nat) (data : List Nat) : seg0 17 sp dp f data = [sp / 256 % 256, sp % 256, dp / 256 % 256, dp % 256, (8 + data.length) / 256 % 256, (8 + data.length) % 256, 0, 0] ++ data := by
  simp [seg0, midB, bg2]
theorem segB_get (p : Nat) (hp : p = 6 ∨ p = 17) (v : Bool) (S D : List Nat) (sp dp f : Nat) (data : List Nat) (bare : Bool) (i : Nat) (hi : i < sAt p ∨ sAt p + 2 ≤ i) :
    (segB p v S D sp dp f data bare).getD i 0 = (seg0 p sp dp f data).getD i 0 := by
  unfold segB
  split
  · rfl
  · refine ov_get_off _ _ _ _ ?_ (by rw [bg_length]; exact hi)
    rw [bg_length, seg0_len]
    rcases hp with rfl | rfl <;> simp [sAt, hsz] <;> omega
theorem segB_fs (p : Nat) (hp : p = 6 ∨ p = 17) (v : Bool) (S D : List Nat) (sp dp f : Nat) (data : List Nat) (bare : Bool) (hl : data.length ≤ 2000) : fs p (segB p v S D sp dp f data bare) = 0 := by
  have hlen := segB_len p hp v S D sp dp f data bare
  rcases hp with rfl | rfl
  · have h12 := segB_get 6 (.inl rfl) v S D sp dp f data bare 12 (.inl (by simp [sAt]))
    rw [seg0_tcp] at h12
    have h12 : (segB 6 v S D sp dp f data bare).getD 12 0 = 80 := h12
    refine fs_six _ ?_ ?_ ?_
    · rw [hlen]; simp [hsz]
    · unfold tz; rw [h12]; omega
    · unfold tz; rw [h12, hlen]; simp [hsz]
  · have h4 := segB_get 17 (.inr rfl) v S D sp dp f data bare 4 (.inl (by simp [sAt]))
    have h5 := segB_get 17 (.inr rfl) v S D sp dp f data bare 5 (.inl (by simp [sAt]))
    rw [seg0_udp] at h4 h5
    have e : u2 (segB 17 v S D sp dp f data bare) 4 = 8 + data.length := by
      unfold u2; rw [h4, h5]
      show (8 + data.length) / 256 % 256 * 256 + (8 + data.length) % 256 = _
      omega
    refine fs_udp _ ?_ ?_ ?_
    · rw [hlen]; simp [hsz]
    · rw [e]; omega
    · rw [e, hlen]; simp [hsz]
theorem segB_ports (p : Nat) (hp : p = 6 ∨ p = 17) (v : Bool) (S D : List Nat) (sp dp f : Nat) (data : List Nat) (bare : Bool) (h1 : sp < 65536) (h2 : dp < 65536) :
    u2 (segB p v S D sp dp f data bare) 0 = sp ∧ u2 (segB p v S D sp dp f data bare) 2 = dp ∧ fl p (segB p v S D sp dp f data bare) = if p = 6 then f else 0 := by
  have hs : 4 ≤ sAt p := by rcases hp with rfl | rfl <;> simp [sAt]
  have g0 := segB_get p hp v S D sp dp f data bare 0 (.inl (by omega))
  have g1 := segB_get p hp v S D sp dp f data bare 1 (.inl (by omega))
  have g2 := segB_get p hp v S D sp dp f data bare 2 (.inl (by omega))
  have g3 := segB_get p hp v S D sp dp f data bare 3 (.inl (by omega))
  rcases hp with rfl | rfl
  · have g13 := segB_get 6 (.inl rfl) v S D sp dp f data bare 13 (.inl (by simp [sAt]))
    rw [seg0_tcp] at g0 g1 g2 g3 g13
    refine ⟨?_, ?_, ?_⟩
    · unfold u2; rw [g0, g1]; show sp / 256 % 256 * 256 + sp % 256 = sp; omega
    · unfold u2; rw [g2, g3]; show dp / 256 % 256 * 256 + dp % 256 = dp; omega
    · unfold fl; rw [if_pos rfl, if_pos rfl, g13]; rfl
  · rw [seg0_udp] at g0 g1 g2 g3
    refine ⟨?_, ?_, ?_⟩
    · unfold u2; rw [g0, g1]; show sp / 256 % 256 * 256 + sp % 256 = sp; omega
    · unfold u2; rw [g2, g3]; show dp / 256 % 256 * 256 + dp % 256 = dp; omega
    · rfl
theorem headB_len (v : Bool) (S D : List Nat) (p n : Nat) (hS : S.length = 16) (hD : D.length = 16) : (headB v S D p n).length = if v then 40 else 20 := by
  unfold headB
  cases v with
  | true => exact mk6_length S D hS hD p n
  | false =>
    show (mk4 (S.take 4) (D.take 4) p n).length = 20
    have := mk0_length (S.take 4) (D.take 4) (by simp [hS]) (by simp [hD]) p n
    unfold mk4
    rw [ov_length _ _ _ (by rw [bg_length]; omega)]
    exact this
theorem a4_take (S : List Nat) (hS : S.length = 16) (hv : vldA false S = true) : a4 (S.take 4) = cellsA false S := by
  have hv := (vldA_spec.1 hv).resolve_left (by simp)
  unfold a4
  congr 1
  refine ext_getD _ _ 0 (by simp [hS]) fun i hi => ?_
  have hi : i < 16 := by simp [hS] at hi; omega
  by_cases h4 : i < 4
  · rw [List.getD_eq_getElem?_getD, List.getElem?_append_left (by simp [hS]; omega), List.getElem?_take_of_lt h4, List.getD_eq_getElem?_getD]
  · rw [hv i (by omega) hi, List.getD_eq_getElem?_getD, List.getElem?_append_right (by simp [hS]; omega), List.getElem?_replicate]
    split <;> rfl
end Go.Proofs.Ytnpibdjfafpegaa
namespace Go.Proofs.Ytnpibdjfafpegaa
open Go.RowKit
theorem wsp_pos : ∀ (l : List Nat) (p : Nat), (∃ x ∈ l, 0 < x) → 0 < wsp p l
  | [], _, h => by obtain ⟨x, h, -⟩ := h; cases h
  | y :: r, p, h => by
    obtain ⟨x, hx, h0⟩ := h
    simp only [wsp]
    rcases List.mem_cons.1 hx with rfl | hx
    · have : 0 < x * wt p := Nat.mul_pos h0 (by unfold wt; split <;> omega)
      omega
    · have := wsp_pos r (p + 1) ⟨x, hx, h0⟩
      omega
theorem tsum_pos (p : Nat) (zs : List Nat) (v : Bool) (S D : List Nat) (hp : 0 < p) : 0 < tsum p zs v S D := by
  unfold tsum
  have : 0 < wsp 0 (psd v S D p zs.length) := wsp_pos _ 0 ⟨p, by unfold psd; cases v <;> simp, hp⟩
  omega
theorem gd_yes (p : Nat) (zs : List Nat) (v : Bool) (S D : List Nat) (hp : 0 < p) (h : fs p zs = 0) (h2 : wo p zs = true ∨ tsum p zs v S D % 65535 = 0) : gd p zs v S v D = true := by
  unfold gd
  rw [decide_eq_true ⟨h, rfl⟩, Bool.true_and]
  rcases h2 with h2 | h2
  · rw [h2]; rfl
  · rw [decide_eq_true ((gr_full _).2 ⟨Nat.ne_of_gt (tsum_pos p zs v S D hp), h2⟩), Bool.or_true]
theorem u2_ov (zs : List Nat) (c k : Nat) (h : k + 2 ≤ zs.length) (hc : c < 65536) : u2 (ov zs (bg 2 c) k) k = c := by
  have hl := bg_length 2 c
  unfold u2
  rw [ov_get _ _ _ _ (by omega), ov_get _ _ _ _ (by omega), hl, if_pos (by omega), if_pos (by omega), Nat.sub_self, show k + 1 - k = 1 by omega, bg2]
  show c / 256 % 256 * 256 + c % 256 = c
  omega
theorem sAt_len (p : Nat) (hp : p = 6 ∨ p = 17) : 6 ≤ sAt p ∧ sAt p + 2 ≤ hsz p ∧ sAt p % 2 = 0 := by rcases hp with rfl | rfl <;> simp [sAt, hsz]
theorem seg0_ck (p : Nat) (hp : p = 6 ∨ p = 17) (sp dp f : Nat) (data : List Nat) : u2 (seg0 p sp dp f data) (sAt p) = 0 := by
  rcases hp with rfl | rfl
  · rw [seg0_tcp]; unfold u2; simp [sAt]
  · rw [seg0_udp]; unfold u2; simp [sAt]
theorem built_wo (p : Nat) (hp : p = 6 ∨ p = 17) (v : Bool) (S D : List Nat) (sp dp f : Nat) (data : List Nat) (bare : Bool) : wo p (segB p v S D sp dp f data bare) = decide (p = 17 ∧ bare = true) := by
  obtain ⟨h6, hl, -⟩ := sAt_len p hp
  rcases hp with rfl | rfl
  · unfold wo; rw [decide_eq_false (by omega), decide_eq_false (by omega)]
  · by_cases hb : bare = true
    · rw [decide_eq_true ⟨rfl, hb⟩]
      unfold wo segB
      rw [if_pos ⟨rfl, hb⟩]
      exact decide_eq_true ⟨rfl, seg0_ck 17 (.inr rfl) sp dp f data⟩
    · rw [decide_eq_false (fun h : (17 : Nat) = 17 ∧ bare = true => hb h.2)]
      unfold wo segB
      rw [if_neg (fun h : (17 : Nat) = 17 ∧ bare = true => hb h.2)]
      refine decide_eq_false (fun h => ?_)
      have h := h.2
      have e := u2_ov (seg0 17 sp dp f data) (ckB 17 v S D (seg0 17 sp dp f data)) 6 (by rw [seg0_len]; show 6 + 2 ≤ 8 + _; omega) (ckB_lt _ _ _ _ _)
      rw [show sAt 17 = 6 from rfl, e] at h
      unfold ckB at h
      split at h <;> omega
theorem built_sum (p : Nat) (hp : p = 6 ∨ p = 17) (v : Bool) (S D : List Nat) (sp dp f : Nat) (data : List Nat) (bare : Bool) (hb : ¬ (p = 17 ∧ bare = true)) : tsum p (segB p v S D sp dp f data bare) v S D % 65535 = 0 := by
  obtain ⟨h6, hl, he⟩ := sAt_len p hp
  have hlen := seg0_len p sp dp f data
  have hck := seg0_ck p hp sp dp f data
  unfold segB
  rw [if_neg hb]
  generalize seg0 p sp dp f data = s0 at *
  have hc := ckB_lt p v S D s0
  have hm := gr_mod (tsum p s0 v S D)
  have hle := gr_le (tsum p s0 v S D)
  have hck2 : ckB p v S D s0 % 65535 = (65535 - gr (tsum p s0 v S D)) % 65535 := by unfold ckB; split <;> omega
  generalize ckB p v S D s0 = c at *
  have hbl := bg_length 2 c
  have hw := ov_wsp s0 (bg 2 c) (sAt p) he (by omega) (by omega)
  rw [hbl, wsp_two_at s0 (sAt p) (by omega), hck, wsp_bg c hc] at hw
  have hl2 : (ov s0 (bg 2 c) (sAt p)).length = s0.length := ov_length _ _ _ (by omega)
  unfold tsum at hm hle hck2 ⊢
  rw [hl2]
  omega
theorem built_good (p : Nat) (hp : p = 6 ∨ p = 17) (v : Bool) (S D : List Nat) (sp dp f : Nat) (data : List Nat) (bare : Bool) (hl : data.length ≤ 2000) : gd p (segB p v S D sp dp f data bare) v S v D = true := by
  refine gd_yes p _ v S D (by omega) (segB_fs p hp v S D sp dp f data bare hl) ?_
  by_cases hb : p = 17 ∧ bare = true
  · exact .inl (by rw [built_wo p hp, decide_eq_true hb])
  · exact .inr (built_sum p hp v S D sp dp f data bare hb)
end Go.Proofs.Ytnpibdjfafpegaa
namespace Go.Proofs.Ytnpibdjfafpegaa
open Go.RowKit
def lA (six : Bool) (T : List Nat) : List Nat := if six then (T.drop 8).take 16 else (T.drop 12).take 4 ++ List.replicate (16 - ((T.drop 12).take 4).length) 0
def lB (six : Bool) (T : List Nat) : List Nat := if six then (T.drop 24).take 16 else (T.drop 16).take 4 ++ List.replicate (16 - ((T.drop 16).take 4).length) 0
theorem lA_eq (six : Bool) (T : List Nat) : Value.agg (fA six T) = adr six (lA six T) := by cases six <;> rfl
theorem lB_eq (six : Bool) (T : List Nat) : Value.agg (fB six T) = adr six (lB six T) := by cases six <;> rfl
theorem len_room (six : Bool) (T : List Nat) (h : fhr six T = 0) : (if six then 40 else 20) ≤ T.length := by
  cases six with
  | true => exact (f6_yes T h).1
  | false => exact (ff_yes T h).1
theorem lA_len (six : Bool) (T : List Nat) (h : fhr six T = 0) : (lA six T).length = 16 := by
  have := len_room six T h
  cases six with
  | true => simp [lA] at this ⊢; omega
  | false => simp [lA] at this ⊢; omega
theorem lB_len (six : Bool) (T : List Nat) (h : fhr six T = 0) : (lB six T).length = 16 := by
  have := len_room six T h
  cases six with
  | true => simp [lB] at this ⊢; omega
  | false => simp [lB] at this ⊢; omega
theorem lA_lt (six : Bool) (T : List Nat) (h : ∀ c ∈ T, c < 256) : ∀ c ∈ lA six T, c < 256 := by
  intro c hc
  unfold lA at hc
  split at hc
  · exact h c (List.mem_of_mem_drop (List.mem_of_mem_take hc))
  · rcases List.mem_append.1 hc with hc | hc
    · exact h c (List.mem_of_mem_drop (List.mem_of_mem_take hc))
    · rw [List.eq_of_mem_replicate hc]; omega
theorem lB_lt (six : Bool) (T : List Nat) (h : ∀ c ∈ T, c < 256) : ∀ c ∈ lB six T, c < 256 := by
  intro c hc
  unfold lB at hc
  split at hc
  · exact h c (List.mem_of_mem_drop (List.mem_of_mem_take hc))
  · rcases List.mem_append.1 hc with hc | hc
    · exact h c (List.mem_of_mem_drop (List.mem_of_mem_take hc))
    · rw [List.eq_of_mem_replicate hc]; omega
def gf (zs : List Nat) : Bool := decide (rr zs = 0) && gd (fP (sixF zs) (pkt zs)) (sgm zs) (sixF zs) (lA (sixF zs) (pkt zs)) (sixF zs) (lB (sixF zs) (pkt zs))
end Go.Proofs.Ytnpibdjfafpegaa
namespace Go.Proofs.Ytnpibdjfafpegaa
open Go.RowKit
def ly0 (zs : List Nat) : List (Nat × Nat) := (0, 0) :: if u2 zs 12 = 33024 then [(1, 14)] else []
def lys (zs : List Nat) : List (Nat × Nat) :=
  if (net zs).2.2 = 1 then []
  else if (net zs).2.2 ≠ 0 then ly0 zs
  else if fhr (sixF zs) (pkt zs) ≠ 0 then ly0 zs
  else if fs (fP (sixF zs) (pkt zs)) (sgm zs) ≠ 0 then ly0 zs ++ [(if sixF zs then 3 else 2, (net zs).1)]
  else ly0 zs ++ [(if sixF zs then 3 else 2, (net zs).1)] ++ [(if fP (sixF zs) (pkt zs) = 17 then 5 else 4, (net zs).1 + fS (sixF zs) (pkt zs))]
end Go.Proofs.Ytnpibdjfafpegaa
namespace Go.Proofs.Ytnpibdjfafpegaa
open Go.RowKit
theorem getDa (Z R : List Nat) (i : Nat) (h : i < Z.length) : (Z ++ R).getD i 0 = Z.getD i 0 := by
  rw [List.getD_eq_getElem?_getD, List.getElem?_append_left h, ← List.getD_eq_getElem?_getD]
theorem u2_app' (Z R : List Nat) (i : Nat) (h : i + 2 ≤ Z.length) : u2 (Z ++ R) i = u2 Z i := by
  unfold u2; rw [getDa _ _ _ (by omega), getDa _ _ _ (by omega)]
theorem ff_more (Z R : List Nat) (h : ff Z = 0) : ff (Z ++ R) = 0 ∧ hs (Z ++ R) = hs Z := by
  obtain ⟨h20, h4, hs20, hsl, hl, hck, hfr, hp⟩ := ff_yes Z h
  have e : hs (Z ++ R) = hs Z := by unfold hs; rw [getDa _ _ _ (by omega)]
  refine ⟨?_, e⟩
  unfold ff
  rw [e, u2_app' _ _ 2 (by omega), u2_app' _ _ 6 (by omega), getDa _ _ 0 (by omega), getDa _ _ 9 (by omega), List.take_append_of_le_length (by omega)]
  have hlen : (Z ++ R).length = Z.length + R.length := by simp
  rw [if_neg (by omega), if_neg (by omega), if_neg (by omega), if_neg (by omega), if_neg (by omega), if_neg (by omega)]
theorem hd_key (v : Bool) (S D : List Nat) (p : Nat) (SG R : List Nat) (n : Nat) (hp : p = 6 ∨ p = 17) (hS : S.length = 16) (hD : D.length = 16) (hvS : vldA v S = true) (hvD : vldA v D = true) (hn : SG.length = n) (hn2 : n ≤ 60000) :
    fhr v (headB v S D p n ++ (SG ++ R)) = 0 ∧ fS v (headB v S D p n ++ (SG ++ R)) = (if v then 40 else 20) ∧ fL v (headB v S D p n ++ (SG ++ R)) = (if v then 40 else 20) + n ∧
      fP v (headB v S D p n ++ (SG ++ R)) = p ∧ fA v (headB v S D p n ++ (SG ++ R)) = cellsA v S ∧ fB v (headB v S D p n ++ (SG ++ R)) = cellsA v D := by
  have hl : n ≤ (SG ++ R).length := by rw [List.length_append]; omega
  cases v with
  | true =>
    have hf := mk6_f S D (SG ++ R) p n hS hD (by omega) hp hl
    refine ⟨hf, rfl, ?_, ?_, ?_, ?_⟩
    · show 40 + u2 (mk6 S D p n ++ (SG ++ R)) 4 = _
      rw [mk6_u2 S D _ p _ (by omega)]; rfl
    · show (mk6 S D p n ++ (SG ++ R)).getD 6 0 = p
      rw [mk6_cons]; rfl
    · show srcA _ = _
      unfold srcA; rw [show headB true S D p n = mk6 S D p n from rfl, mk6_src S D _ p _ hS]
    · show dstA _ = _
      unfold dstA; rw [show headB true S D p n = mk6 S D p n from rfl, mk6_dst S D _ p _ hS hD]
  | false =>
    obtain ⟨q1, q2, q3, q4, q5, q6, q7, q8⟩ := mk_read (S.take 4) (D.take 4) SG p n (by simp [hS]) (by simp [hD]) hn (by omega) hp
    rw [← List.append_assoc]
    rw [show headB false S D p n = mk4 (S.take 4) (D.take 4) p n from rfl]
    obtain ⟨m1, m2⟩ := ff_more _ R q1
    refine ⟨m1, m2.trans q4, ?_, ?_, ?_, ?_⟩
    · show u2 (mk4 (S.take 4) (D.take 4) p n ++ SG ++ R) 2 = _
      rw [u2_app' _ _ 2 (by omega), q5]; rfl
    · show (mk4 (S.take 4) (D.take 4) p n ++ SG ++ R).getD 9 0 = p
      rw [getDa _ _ 9 (by omega), q6]
    · show a4 _ = _
      rw [List.drop_append_of_le_length (by omega), List.take_append_of_le_length (by rw [List.length_drop]; omega), q7]; exact a4_take S hS hvS
    · show a4 _ = _
      rw [List.drop_append_of_le_length (by omega), List.take_append_of_le_length (by rw [List.length_drop]; omega), q3]; exact a4_take D hD hvD
def frR (v : Bool) (S D : List Nat) (p sp dp f : Nat) (data : List Nat) (tag bare : Bool) (R : List Nat) : List Nat :=
  ethB tag v ++ (headB v S D p (hsz p + data.length) ++ (segB p v S D sp dp f data bare ++ R))
theorem frmB_R (v : Bool) (S D : List Nat) (p sp dp f : Nat) (data : List Nat) (tag bare : Bool) (pad : Nat) : frmB v S D p sp dp f data tag bare pad = frR v S D p sp dp f data tag bare (List.replicate pad 0) := by
  unfold frmB frR; simp
def hN (tag : Bool) : Nat := if tag then 18 else 14
def hH (v : Bool) : Nat := if v then 40 else 20
theorem ethB_len (tag v : Bool) : (ethB tag v).length = hN tag := by cases tag <;> cases v <;> rfl
theorem eth_net (tag v : Bool) (X : List Nat) : net (ethB tag v ++ X) = (hN tag, (if v then 34525 else 2048), 0) := by
  have hl : ¬ (ethB tag v ++ X).length < hN tag := by rw [List.length_append, ethB_len]; omega
  cases tag with
  | true =>
    have hl : ¬ (ethB true v ++ X).length < 18 := hl
    have h12 : u2 (ethB true v ++ X) 12 = 33024 := by unfold u2 ethB; cases v <;> simp
    have h16 : u2 (ethB true v ++ X) 16 = if v then 34525 else 2048 := by unfold u2 ethB; cases v <;> simp
    rw [net_tag _ (by omega) h12 hl, h16]
    cases v <;> rfl
  | false =>
    have hl : ¬ (ethB false v ++ X).length < 14 := hl
    have h12 : u2 (ethB false v ++ X) 12 = if v then 34525 else 2048 := by unfold u2 ethB; cases v <;> simp
    rw [net_bare _ hl (by rw [h12]; cases v <;> decide), h12]
    cases v <;> rfl
theorem eth_six (tag v : Bool) (X : List Nat) : sixF (ethB tag v ++ X) = v := by unfold sixF; rw [eth_net]; cases v <;> rfl
theorem eth_pkt (tag v : Bool) (X : List Nat) : pkt (ethB tag v ++ X) = X := by unfold pkt; rw [eth_net]; exact drop_app _ _ _ (ethB_len tag v)
def lyE (tag : Bool) : List (Nat × Nat) := if tag then [(0, 0), (1, 14)] else [(0, 0)]
theorem eth_ly (tag v : Bool) (X : List Nat) : ly0 (ethB tag v ++ X) = lyE tag := by
  have h12 : u2 (ethB tag v ++ X) 12 = if tag then 33024 else if v then 34525 else 2048 := by unfold u2 ethB; cases tag <;> cases v <;> simp
  unfold ly0; rw [h12]
  cases tag <;> cases v <;> rfl
structure Told8 (v : Bool) (S D : List Nat) (p sp dp f : Nat) (data : List Nat) (tag bare : Bool) (R F : List Nat) : Prop where
  len : F.length = hN tag + hH v + (hsz p + data.length) + R.length
  sg : sgm F = segB p v S D sp dp f data bare
  rr : rr F = 0
  vw : vw F = vcells v (hN tag) (hN tag + hH v) (hN tag + hH v + (hsz p + data.length)) (kcells p (cellsA v S) (cellsA v D) sp dp) (if p = 6 then f else 0)
  gf : gf F = true
  ly : lys F = lyE tag ++ [(if v then 3 else 2, hN tag)] ++ [(if p = 17 then 5 else 4, hN tag + hH v)]
theorem lA_of (v : Bool) (T S : List Nat) (h : fA v T = cellsA v S) (hS : S.length = 16) (h2 : fhr v T = 0) : lA v T = S := by
  have e : cellsA v (lA v T) = cellsA v S := by
    have := lA_eq v T
    rw [h] at this
    exact (Value.agg.inj this).symm
  have l1 := lA_len v T h2
  refine ext_getD _ _ 0 (by rw [l1, hS]) fun i hi => ?_
  rw [l1] at hi
  have c1 : (cellsA v (lA v T))[i + 1]? = some (.int .u8 (((lA v T).getD i 0 : Nat) : Int)) := by
    simp [cellsA, List.getD_eq_getElem?_getD, l1, hi]
  have c2 : (cellsA v S)[i + 1]? = some (.int .u8 ((S.getD i 0 : Nat) : Int)) := by
    simp [cellsA, List.getD_eq_getElem?_getD, hS, hi]
  rw [e, c2] at c1
  simp only [Option.some.injEq, Value.int.injEq, true_and] at c1
  omega
theorem lB_of (v : Bool) (T S : List Nat) (h : fB v T = cellsA v S) (hS : S.length = 16) (h2 : fhr v T = 0) : lB v T = S := by
  have e : cellsA v (lB v T) = cellsA v S := by
    have := lB_eq v T
    rw [h] at this
    exact (Value.agg.inj this).symm
  have l1 := lB_len v T h2
  refine ext_getD _ _ 0 (by rw [l1, hS]) fun i hi => ?_
  rw [l1] at hi
  have c1 : (cellsA v (lB v T))[i + 1]? = some (.int .u8 (((lB v T).getD i 0 : Nat) : Int)) := by
    simp [cellsA, List.getD_eq_getElem?_getD, l1, hi]
  have c2 : (cellsA v S)[i + 1]? = some (.int .u8 ((S.getD i 0 : Nat) : Int)) := by
    simp [cellsA, List.getD_eq_getElem?_getD, hS, hi]
  rw [e, c2] at c1
  simp only [Option.some.injEq, Value.int.injEq, true_and] at c1
  omega
theorem told8 (v : Bool) (S D : List Nat) (p sp dp f : Nat) (data : List Nat) (tag bare : Bool) (R : List Nat) (hp : p = 6 ∨ p = 17) (hS : S.length = 16) (hD : D.length = 16) (hvS : vldA v S = true) (hvD : vldA v D = true)
    (hl : data.length ≤ 1500) (hsp : sp < 65536) (hdp : dp < 65536) : Told8 v S D p sp dp f data tag bare R (frR v S D p sp dp f data tag bare R) := by
  have hn := segB_len p hp v S D sp dp f data bare
  have hz : hsz p ≤ 20 := by unfold hsz; split <;> omega
  have h0 := segB_fs p hp v S D sp dp f data bare (by omega)
  have hgd := built_good p hp v S D sp dp f data bare (by omega)
  obtain ⟨hu0, hu2, hfl⟩ := segB_ports p hp v S D sp dp f data bare hsp hdp
  obtain ⟨k1, k2, k3, k4, k5, k6⟩ := hd_key v S D p (segB p v S D sp dp f data bare) R (hsz p + data.length) hp hS hD hvS hvD hn (by omega)
  have hh := headB_len v S D p (hsz p + data.length) hS hD
  unfold frR
  generalize hSG : segB p v S D sp dp f data bare = SG at *
  generalize hX : headB v S D p (hsz p + data.length) ++ (SG ++ R) = X at *
  have hsix := eth_six tag v X
  have hpk := eth_pkt tag v X
  have hnet := eth_net tag v X
  have hdr : (ethB tag v ++ X).drop (hN tag + hH v) = SG ++ R := by
    rw [← hX, ← List.append_assoc]
    exact drop_app _ _ _ (by rw [List.length_append, ethB_len, hh]; rfl)
  have hsg : sgm (ethB tag v ++ X) = SG := by
    unfold sgm
    rw [hsix, hpk, hnet, k2, k3]
    show ((ethB tag v ++ X).drop (hN tag + hH v)).take _ = _
    rw [hdr, Nat.add_sub_cancel_left]
    exact take_app _ _ _ hn
  have hrr : rr (ethB tag v ++ X) = 0 := by
    unfold rr
    rw [hsix, hpk, hnet, k1, k4, hsg, h0]; rfl
  refine ⟨?_, ?_, hrr, ?_, ?_, ?_⟩
  · rw [← hX, List.length_append, List.length_append, List.length_append, ethB_len, hh, hn]; unfold hH; omega
  · rw [hsg, hSG]
  · unfold vw keyF
    rw [if_pos hrr, hsix, hpk, hnet, k2, k3, k4, k5, k6, hsg, hu0, hu2, hfl]
    show vcells v (hN tag) (hN tag + hH v) (hN tag + (hH v + _)) _ _ = _
    rw [Nat.add_assoc]
  · unfold gf
    rw [hsix, hpk, hsg, k4, lA_of v X S k5 hS k1, lB_of v X D k6 hD k1, hrr, hgd]; rfl
  · unfold lys
    rw [hsix, hpk, hnet, k1, k4, hsg, h0, k2, eth_ly]
    rfl
end Go.Proofs.Ytnpibdjfafpegaa
namespace Go.Proofs.Ytnpibdjfafpegaa
open Go.RowKit
def kN (v : Bool) : Nat := if v then 34525 else 2048
def prN (v : Bool) : Nat := if v then 41 else 4
def capB (v : Bool) : Nat := if v then 65535 else 65515
theorem kindOf_any (v : Bool) (w : World) : Calls Try.prog 28 #[.bool v] w fun e w' => e = .returned (.int .u16 (kN v : Nat)) ∧ w = w' := by
  cases v <;> go_enter Try.func28, Try.ntmps28 <;> go_wp2 <;> go_ret <;> exact ⟨rfl, rfl⟩
theorem protoOf_any (v : Bool) (w : World) : Calls Try.prog 30 #[.bool v] w fun e w' => e = .returned (.int .u8 (prN v : Nat)) ∧ w = w' := by
  cases v <;> go_enter Try.func30, Try.ntmps30 <;> go_wp2 <;> go_ret <;> exact ⟨rfl, rfl⟩
set_option maxRecDepth 100000 in
theorem equal_any (v1 v2 : Value) (a b : List Nat) (w : World) (h1 : Rd w v1 (nus .u8 a)) (h2 : Rd w v2 (nus .u8 b)) (ha : ∀ c ∈ a, c < 256) (hb : ∀ c ∈ b, c < 256) :
    Calls Try.prog 48 #[v1, v2] w fun e w' => e = .returned (.bool (decide (a = b))) ∧ w = w' := by
  have c1 := conv_rd (P := Try.prog) w 22 9 5 Try.underlying22 Try.underlying5 Try.underlying9 v1 a h1
  have c2 := conv_rd (P := Try.prog) w 22 9 5 Try.underlying22 Try.underlying5 Try.underlying9 v2 b h2
  have e1 : ((str a).toList == (str b).toList) = decide (a = b) := by
    by_cases h : a = b
    · subst h; simp
    · rw [decide_eq_false h, beq_eq_false_iff_ne]
      intro q
      rw [Go.ByteArray.toList_eq, Go.ByteArray.toList_eq] at q
      exact h (str_inj a b ha hb (by cases hA : str a; cases hB : str b; rw [hA, hB] at q; simpa [Array.toList_inj] using q))
  generalize str a = A at *
  generalize str b = B at *
  generalize decide (a = b) = r at *
  clear h1 h2 ha hb
  go_enter Try.func48, Try.ntmps48
  go_wp2
  go_ret
  exact ⟨rfl, rfl⟩
def pP (v : Bool) : Nat := if v then 6 else 9
def pS (v : Bool) : Nat := if v then 8 else 12
def pD (v : Bool) : Nat := if v then 24 else 16
def pcs (v : Bool) : Array Value := #[.int .i64 (pP v : Nat), .int .i64 (pS v : Nat), .int .i64 (pD v : Nat), .int .i64 (hH v : Nat)]
theorem i88 : (Try.prog.info? 88).map (·.size) = some 4 := by kernel_rfl
theorem placesOf_any (v : Bool) (w : World) : Calls Try.prog 46 #[.bool v] w fun e w' => e = .returned (.agg (pcs v)) ∧ Below w.heap.size w w' := by
  have hrun := run_blk_load (P := Try.prog) 88 w.heap.size _ (Blk.new w 88 (pcs v)) Try.underlying88 rfl i88
  cases v <;> go_enter Try.func46, Try.ntmps46 <;> go_wp2 <;> exact bodyPost_ret (results_cell 2 88 w.heap.size _ Try.results46 rfl hrun) rfl ⟨rfl, (Below.refl _ w).alloc (Nat.le_refl _) _⟩
def hdM (v : Bool) (S D : List Nat) (p n : Nat) : List Nat := if n ≤ capB v then headB v S D p n else []
theorem holds_any (x : Value) (Z : List Nat) (p : Nat) (w : World) (h : Rd w x (nus .u8 Z)) (hb : ∀ c ∈ Z, c < 256) (hp : p < 256) :
    Calls Try.prog 34 #[x, .int .u8 (p : Int)] w fun e w' => e = .returned (.bool (decide (Z ≠ [] ∧ (p = 4 ∧ Z.getD 0 0 / 16 = 4 ∨ p = 41 ∧ Z.getD 0 0 / 16 = 6)))) ∧ w = w' := by
  have HR := Lib.hid h
  obtain ⟨a, cap, rfl, hlc, hlm⟩ := rd_shape h
  clear hlm
  by_cases h0 : Z = []
  · subst h0
    rw [decide_eq_false (fun q => q.1 rfl)]
    clear HR h hb
    go_enter Try.func34, Try.ntmps34
    go_wp2
    go_ret
    exact ⟨rfl, rfl⟩
  have hpos : 0 < Z.length := List.length_pos_iff.2 h0
  have hx := hb
  obtain ⟨b, off, rfl, hc⟩ := h.cells hpos
  have c0 := hc 0 hpos
  rw [Nat.add_zero] at c0
  have hy : Z.getD 0 0 < 256 := getD_lt Z hb 0
  have e0 : decide (Z ≠ [] ∧ (p = 4 ∧ Z.getD 0 0 / 16 = 4 ∨ p = 41 ∧ Z.getD 0 0 / 16 = 6)) = decide (p = 4 ∧ Z.getD 0 0 / 16 = 4 ∨ p = 41 ∧ Z.getD 0 0 / 16 = 6) := by simp [h0]
  rw [e0]
  clear e0 h0 hx hb HR hc h
  generalize Z.getD 0 0 = y at *
  generalize Z.length = n at *
  have ea : ((y : Int) / 16 == 4) = decide (y / 16 = 4) := by rw [Bool.eq_iff_iff, beq_iff_eq, decide_eq_true_iff]; omega
  have eb : ((y : Int) / 16 == 6) = decide (y / 16 = 6) := by rw [Bool.eq_iff_iff, beq_iff_eq, decide_eq_true_iff]; omega
  by_cases h4 : p = 4
  · subst h4
    rw [show decide (4 = 4 ∧ y / 16 = 4 ∨ 4 = 41 ∧ y / 16 = 6) = decide (y / 16 = 4) from by simp]
    go_enter Try.func34, Try.ntmps34
    go_wp2
    go_ret
    exact ⟨rfl, rfl⟩
  by_cases h6 : p = 41
  · subst h6
    rw [show decide (41 = 4 ∧ y / 16 = 4 ∨ 41 = 41 ∧ y / 16 = 6) = decide (y / 16 = 6) from by simp]
    go_enter Try.func34, Try.ntmps34
    go_wp2
    go_ret
    exact ⟨rfl, rfl⟩
  rw [decide_eq_false (fun q => by rcases q with ⟨q, -⟩ | ⟨q, -⟩; exact h4 q; exact h6 q)]
  have g4 : ((p : Int) == 4) = false := by rw [beq_eq_false_iff_ne]; omega
  have g6 : ((p : Int) == 41) = false := by rw [beq_eq_false_iff_ne]; omega
  clear h4 h6
  go_enter Try.func34, Try.ntmps34
  go_wp2
  go_ret
  exact ⟨rfl, rfl⟩
set_option maxRecDepth 100000 in
theorem header_any (v : Bool) (S D : List Nat) (p n : Nat) (w : World) (hS : S.length = 16) (hD : D.length = 16) (hbS : ∀ c ∈ S, c < 256) (hbD : ∀ c ∈ D, c < 256) (hp : p < 256) :
    Calls Try.prog 29 #[adr v S, adr v D, .int .u8 (p : Int), .int .i64 (n : Int)] w fun e w' => ∃ x, e = .returned (.tuple #[x, .bool (decide (n ≤ capB v))]) ∧ Rd w' x (nus .u8 (hdM v S D p n)) ∧ Below w.heap.size w w' := by
  have sS : (cellsA v S).size = 17 := by rw [cellsA_size, hS]
  have sD : (cellsA v D).size = 17 := by rw [cellsA_size, hD]
  have K := Lib.hid (Below.refl w.heap.size w)
  have I1 := Lib.hid (i24.trans (congrArg some sS.symm))
  have I2 := Lib.hid (i24.trans (congrArg some sD.symm))
  have H0 := Lib.hid (cellsA_head v D)
  cases v with
  | true =>
    have CM := Lib.hid (fun W => make6_any true true S D p (n : Int) W hS hD)
    have hm : mkOk true true (n : Int) = decide (n ≤ capB true) := by
      unfold mkOk capB
      simp only [Bool.true_and, if_true]
      rw [decide_eq_true (by omega : (0 : Int) ≤ (n : Int)), Bool.true_and]
      by_cases q : n ≤ 65535
      · rw [decide_eq_true q, decide_eq_true (by omega)]
      · rw [decide_eq_false q, decide_eq_false (by omega)]
    have ho : mOut true true S D p (n : Int) = hdM true S D p n := by
      unfold mOut hdM
      rw [hm]
      simp only [decide_eq_true_iff, Int.toNat_natCast]
      rfl
    rw [hm, ho] at CM
    clear hm ho hbS hbD hS hD sS sD hp
    generalize hdM true S D p n = R at *
    generalize decide (n ≤ capB true) = ok at *
    unfold adr at CM ⊢
    generalize cellsA true S = SA at *
    generalize cellsA true D = DA at *
    go_enter Try.func29, Try.ntmps29
    have hal := (Below.refl w.heap.size w).alloc (Nat.le_refl _) (.cells SA 27)
    replace K := Lib.hid (K.out.trans (hal.mono K.out.size))
    have HS := Lib.hid (Blk.new w 27 SA)
    clear hal
    have hal := (Below.refl (w.alloc (.cells SA 27)).heap.size (w.alloc (.cells SA 27))).alloc (Nat.le_refl _) (.cells DA 27)
    replace K := Lib.hid (K.out.trans (hal.mono K.out.size))
    replace HS := Lib.hid (HS.out.below hal HS.out.lt)
    have HDq := Blk.new (w.alloc (.cells SA 27)) 27 DA
    simp only [World.size_alloc] at HDq
    have HD := Lib.hid HDq
    clear HDq
    clear hal
    have L1 := (HD.out.cell 0).trans H0.out
    have L2 : (loadVar 27 ⟨w.heap.size, 0, none⟩).run Try.prog ((w.alloc (.cells SA 27)).alloc (.cells DA 27)) = .ok (.agg SA) ((w.alloc (.cells SA 27)).alloc (.cells DA 27)) := run_blk_load (P := Try.prog) 27 (w.heap.size) _ HS.out Try.underlying27 rfl I1.out
    replace L2 := Lib.hid L2
    have L3 : (loadVar 27 ⟨w.heap.size + 1, 0, none⟩).run Try.prog ((w.alloc (.cells SA 27)).alloc (.cells DA 27)) = .ok (.agg DA) ((w.alloc (.cells SA 27)).alloc (.cells DA 27)) := run_blk_load (P := Try.prog) 27 (w.heap.size + 1) _ HD.out Try.underlying27 rfl I2.out
    replace L3 := Lib.hid L3
    go_wp2_with (first | ((with_reducible refine wpList_load_want (op := ⟨some 12, .load 27 (.tmp 4), _, _, _, _⟩) ?wg2 27 (.tmp 4) ?wo2 ⟨w.heap.size, 0, none⟩ ?wx2 (.agg SA) L2.out ?_); (case wg2 => rfl); (case wo2 => rfl); (case wx2 => rfl)) | ((with_reducible refine wpList_load_want (op := ⟨some 13, .load 27 (.tmp 5), _, _, _, _⟩) ?wg3 27 (.tmp 5) ?wo3 ⟨w.heap.size + 1, 0, none⟩ ?wx3 (.agg DA) L3.out ?_); (case wg3 => rfl); (case wo3 => rfl); (case wx3 => rfl)))
    clear L1 L2 L3
    have hzV1 : Hid (((w.alloc (.cells SA 27)).alloc (.cells DA 27)).heap.size = w.heap.size + 1 + 1) := by show _ = _; simp only [World.size_alloc]
    generalize ((w.alloc (.cells SA 27)).alloc (.cells DA 27)) = V1 at *
    refine (CM.out V1).mono ?_
    rintro e V2 ⟨x, rfl, rx, hy⟩
    replace K := Lib.hid (K.out.trans (hy.mono K.out.size))
    replace HS := Lib.hid (HS.out.below hy HS.out.lt)
    replace HD := Lib.hid (HD.out.below hy HD.out.lt)
    have RX := Lib.hid (rx)
    clear rx
    clear hy
    go_wp2
    go_ret2
    exact ⟨_, rfl, RX.out, K.out⟩
  | false =>
    have CM : Hid (∀ W, Calls Try.prog 43 #[adr false S, adr false D, .int .u8 (p : Int), .int .i64 (n : Int)] W fun e w' => ∃ x, e = .returned (.tuple #[x, .bool (decide (n ≤ capB false))]) ∧ Rd w' x (nus .u8 (hdM false S D p n)) ∧ Below W.heap.size W w') := fun W => by
      by_cases q : n ≤ 65515
      · rw [show decide (n ≤ capB false) = true from decide_eq_true q, show hdM false S D p n = headB false S D p n from if_pos q]
        exact (make4_yes S D p n W hS hD hbS hbD hp q).mono fun e w' ⟨x, h1, h2, h3⟩ => ⟨x, h1, Rd.own h2, h3⟩
      · rw [show decide (n ≤ capB false) = false from decide_eq_false q, show hdM false S D p n = [] from if_neg q]
        exact (make4_no false false S D p n W (fun h => by have := h.2.2.2; omega)).mono fun e w' ⟨h1, h2⟩ => ⟨_, h1, rd_nil _ _, h2⟩
    clear hbS hbD hS hD sS sD hp
    generalize hdM false S D p n = R at *
    generalize decide (n ≤ capB false) = ok at *
    unfold adr at CM ⊢
    generalize cellsA false S = SA at *
    generalize cellsA false D = DA at *
    go_enter Try.func29, Try.ntmps29
    have hal := (Below.refl w.heap.size w).alloc (Nat.le_refl _) (.cells SA 27)
    replace K := Lib.hid (K.out.trans (hal.mono K.out.size))
    have HS := Lib.hid (Blk.new w 27 SA)
    clear hal
    have hal := (Below.refl (w.alloc (.cells SA 27)).heap.size (w.alloc (.cells SA 27))).alloc (Nat.le_refl _) (.cells DA 27)
    replace K := Lib.hid (K.out.trans (hal.mono K.out.size))
    replace HS := Lib.hid (HS.out.below hal HS.out.lt)
    have HDq := Blk.new (w.alloc (.cells SA 27)) 27 DA
    simp only [World.size_alloc] at HDq
    have HD := Lib.hid HDq
    clear HDq
    clear hal
    have L4 := (HD.out.cell 0).trans H0.out
    have L5 : (loadVar 27 ⟨w.heap.size, 0, none⟩).run Try.prog ((w.alloc (.cells SA 27)).alloc (.cells DA 27)) = .ok (.agg SA) ((w.alloc (.cells SA 27)).alloc (.cells DA 27)) := run_blk_load (P := Try.prog) 27 (w.heap.size) _ HS.out Try.underlying27 rfl I1.out
    replace L5 := Lib.hid L5
    have L6 : (loadVar 27 ⟨w.heap.size + 1, 0, none⟩).run Try.prog ((w.alloc (.cells SA 27)).alloc (.cells DA 27)) = .ok (.agg DA) ((w.alloc (.cells SA 27)).alloc (.cells DA 27)) := run_blk_load (P := Try.prog) 27 (w.heap.size + 1) _ HD.out Try.underlying27 rfl I2.out
    replace L6 := Lib.hid L6
    go_wp2_with (first | ((with_reducible refine wpList_load_want (op := ⟨some 19, .load 27 (.tmp 4), _, _, _, _⟩) ?wg5 27 (.tmp 4) ?wo5 ⟨w.heap.size, 0, none⟩ ?wx5 (.agg SA) L5.out ?_); (case wg5 => rfl); (case wo5 => rfl); (case wx5 => rfl)) | ((with_reducible refine wpList_load_want (op := ⟨some 20, .load 27 (.tmp 5), _, _, _, _⟩) ?wg6 27 (.tmp 5) ?wo6 ⟨w.heap.size + 1, 0, none⟩ ?wx6 (.agg DA) L6.out ?_); (case wg6 => rfl); (case wo6 => rfl); (case wx6 => rfl)))
    clear L4 L5 L6
    have hzV1 : Hid (((w.alloc (.cells SA 27)).alloc (.cells DA 27)).heap.size = w.heap.size + 1 + 1) := by show _ = _; simp only [World.size_alloc]
    generalize ((w.alloc (.cells SA 27)).alloc (.cells DA 27)) = V1 at *
    refine (CM.out V1).mono ?_
    rintro e V2 ⟨x, rfl, rx, hy⟩
    replace K := Lib.hid (K.out.trans (hy.mono K.out.size))
    replace HS := Lib.hid (HS.out.below hy HS.out.lt)
    replace HD := Lib.hid (HD.out.below hy HD.out.lt)
    have RX := Lib.hid (rx)
    clear rx
    clear hy
    go_wp2
    go_ret2
    exact ⟨_, rfl, RX.out, K.out⟩
end Go.Proofs.Ytnpibdjfafpegaa
namespace Go.Proofs.Ytnpibdjfafpegaa
open Go.RowKit
theorem own_keep {w w' : World} {base gs n cap B : Nat} {e : TypeId} {xs : List Value} (h : w.ownsRow base e 1 (.slice (some ⟨gs, 0, none⟩) n cap) n xs) (hb : Below B w w') (hg : gs < B) :
    w'.ownsRow base e 1 (.slice (some ⟨gs, 0, none⟩) n cap) n xs := by
  obtain ⟨h1, h2⟩ := h
  refine ⟨h1, ?_⟩
  rcases h2 with ⟨h2, -⟩ | ⟨k, cap', cur, hv, hh, h4, hn, hm, h5⟩
  · cases h2
  · cases hv
    exact .inr ⟨gs, cap, cur, rfl, hh, (hb.block gs hg).trans h4, hn, hm, h5⟩
theorem below_none {w w' : World} (h : w.grownBy w' none) : Below w.heap.size w w' := (Below.refl w.heap.size w).grown h (Nat.le_refl _) (fun k e => by cases e)
theorem kget (v : Bool) (sb db : List Nat) (hl1 : sb.length = 16) (hl2 : db.length = 16) (p sp dp : Nat) :
    (kcells p (cellsA v sb) (cellsA v db) sp dp)[0]? = some (.int .u8 (p : Int)) ∧ (kcells p (cellsA v sb) (cellsA v db) sp dp)[1]? = some (.bool v) ∧ (kcells p (cellsA v sb) (cellsA v db) sp dp)[18]? = some (.bool v) ∧
    (kcells p (cellsA v sb) (cellsA v db) sp dp)[35]? = some (.int .u16 (sp : Int)) ∧ (kcells p (cellsA v sb) (cellsA v db) sp dp)[36]? = some (.int .u16 (dp : Int)) := by
  obtain ⟨b0, b1, b2, b3, b4, b5, b6, b7, b8, b9, b10, b11, b12, b13, b14, b15, rfl⟩ := list16 sb hl1
  obtain ⟨d0, d1, d2, d3, d4, d5, d6, d7, d8, d9, d10, d11, d12, d13, d14, d15, rfl⟩ := list16 db hl2
  exact ⟨rfl, rfl, rfl, rfl, rfl⟩
theorem hdr_tcp (sp dp f m : Nat) (h1 : sp < 65536) (h2 : dp < 65536) :
    ((((((List.replicate 20 0).set 12 80).set 13 f).set 0 (sp / 256)).set (0 + 1) (sp % 256)).set 2 (dp / 256)).set (2 + 1) (dp % 256) = bg 2 sp ++ bg 2 dp ++ midB 6 f m := by
  have e1 : sp / 256 % 256 = sp / 256 := by omega
  have e2 : dp / 256 % 256 = dp / 256 := by omega
  simp [bg, midB, e1, e2, List.replicate]
theorem hdr_udp (sp dp f m : Nat) (h1 : sp < 65536) (h2 : dp < 65536) (h3 : 8 + m < 65536) :
    ((((((List.replicate 8 0).set 4 ((8 + m) / 256)).set (4 + 1) ((8 + m) % 256)).set 0 (sp / 256)).set (0 + 1) (sp % 256)).set 2 (dp / 256)).set (2 + 1) (dp % 256) = bg 2 sp ++ bg 2 dp ++ midB 17 f m := by
  have e1 : sp / 256 % 256 = sp / 256 := by omega
  have e2 : dp / 256 % 256 = dp / 256 := by omega
  have e3 : (8 + m) / 256 % 256 = (8 + m) / 256 := by omega
  simp [bg, midB, e1, e2, e3, List.replicate]
end Go.Proofs.Ytnpibdjfafpegaa
namespace Go.Proofs.Ytnpibdjfafpegaa
open Go.RowKit
set_option maxRecDepth 100000 in
set_option maxHeartbeats 1000000 in
theorem rsum4_any (va : Value) (zs : List Nat) (start : Nat) (w : World) (hr : Rd w va (nus .u8 zs)) (hz : zs.length ≤ 4000) (hb : ∀ c ∈ zs, c < 256) (hs : start < 4294967296) :
    Calls Try.prog 23 #[va, .int .u32 (start : Int)] w fun e w' => e = .returned (.int .i64 (gr (start + wsp 0 zs) : Nat)) ∧ w = w' := by
  have HR := Lib.hid hr
  obtain ⟨a, cap, rfl, h1, h2, -⟩ := hr
  rw [nus_length] at h1 HR ⊢
  unfold maxLen at h2
  obtain ⟨len, hl⟩ : ∃ n, n = zs.length := ⟨_, rfl⟩
  rw [← hl] at h1 hz HR ⊢
  have HL := Lib.hid hl
  have HB := Lib.hid hb
  clear hl hb
  go_enter Try.func23, Try.ntmps23
  go_wp2
  go_loop [5, 6] (fun u i => ∃ j p s : Nat, p = 2 * j ∧ p ≤ len + 1 ∧ i = .int .i64 (p : Int) ∧ s = start + wsp 0 (zs.take p) ∧ u = .int .u64 (s : Int)) (fun _ i => len + 1 - (intOf i).toNat)
  case atStart => exact ⟨0, 0, start, rfl, by omega, rfl, by simp [wsp], rfl⟩
  case round =>
    obtain ⟨j, p, s, hp, hpl, rfl, hse, rfl⟩ := hrel
    have hsl : s < 4560000000 := by
      have := wsp_take_lt zs p HB.out
      rw [← HL.out] at this
      omega
    have HS := Lib.hid hse
    have HP := Lib.hid hp
    clear hse hp
    by_cases hlt : p < len
    · obtain ⟨b, o, rfl, hc⟩ := HR.out.cells (by omega)
      have c0 := hc p hlt
      have hx := getD_lt zs HB.out p
      have hw := wsp_two zs j (by rw [← HP.out, ← HL.out]; exact hlt)
      rw [show 2 * (j + 1) = p + 2 from by rw [HP.out]; omega, ← HP.out] at hw
      unfold w2 at hw
      rw [← HP.out] at hw
      have HW := Lib.hid hw
      obtain ⟨x, hxe⟩ : ∃ x, x = zs.getD p 0 := ⟨_, rfl⟩
      rw [← hxe] at c0 hx
      have HX := Lib.hid hxe
      have HC := Lib.hid hc
      clear hw hxe hc
      by_cases hlt2 : p + 1 < len
      · have c1 := HC.out (p + 1) hlt2
        have hy := getD_lt zs HB.out (p + 1)
        obtain ⟨y, hye⟩ : ∃ y, y = zs.getD (p + 1) 0 := ⟨_, rfl⟩
        rw [← hye] at c1 hy
        have HY := Lib.hid hye
        clear hye
        go_wp2
        go_round
        case rel => exact ⟨j + 1, p + 2, s + x * 256 + y, by have := HP.out; omega, by omega, by go_num, by have := HS.out; have := HX.out; have := HY.out; rw [HW.out, ← HX.out, ← HY.out]; omega, by go_num⟩
        case measure => simp [intOf]; omega
      · have hy : zs.getD (p + 1) 0 = 0 := by rw [List.getD_eq_getElem?_getD, List.getElem?_eq_none (by rw [← HL.out]; omega)]; rfl
        have HY := Lib.hid hy
        clear hy
        go_wp2
        go_round
        case rel => exact ⟨j + 1, p + 2, s + x * 256, by have := HP.out; omega, by omega, by go_num, by rw [HW.out, HY.out, ← HX.out, HS.out]; omega, by go_num⟩
        case measure => simp [intOf]; omega
    · have hse : s = start + wsp 0 zs := by rw [HS.out, List.take_of_length_le (by rw [← HL.out]; omega)]
      have HSE := Lib.hid hse
      clear hse
      go_wp2
      go_loop [5] (fun v => ∃ x : Nat, gr x = gr s ∧ x < 4611686018427387904 ∧ v = .int .u64 x) (fun v => (intOf v).toNat)
      case atStart => exact ⟨s, rfl, by omega, rfl⟩
      case round =>
        obtain ⟨x, hg, hx, rfl⟩ := hrel
        have HG := Lib.hid hg
        clear hg
        by_cases hlt : 65535 < x
        · have hst := Lib.hid (gr_step x hlt)
          have ho := Lib.hid (go_on x (by omega))
          go_wp2
          go_round
          case rel => exact ⟨x / 65536 + x % 65536, by rw [hst.out, HG.out], by omega, by rw [ho.out]⟩
          case measure => rw [ho.out]; simp [intOf]; omega
        · have hfin := Lib.hid (gr_lt s x HG.out (by omega))
          go_wp2
          go_ret
          exact ⟨ret_int (by rw [← HSE.out, ← hfin.out]), rfl⟩
end Go.Proofs.Ytnpibdjfafpegaa
namespace Go.Proofs.Ytnpibdjfafpegaa
open Go.RowKit
set_option maxHeartbeats 1000000 in
theorem rmake_no (six1 six2 : Bool) (sb db : List Nat) (p : Int) (n : Int) (w : World) (h : mkOk six1 six2 n = false) :
    Calls Try.prog 17 #[adr six1 sb, adr six2 db, .int .u8 p, .int .i64 n] w fun e w' => e = .returned (.tuple #[.slice none 0 0, .bool false]) ∧ Below w.heap.size w w' := by
  unfold adr
  have e1 : (cellsA six1 sb)[0]? = some (.bool six1) := cellsA_head _ _
  have e2 : (cellsA six2 db)[0]? = some (.bool six2) := cellsA_head _ _
  generalize cellsA six1 sb = c1 at *
  generalize cellsA six2 db = c2 at *
  have B1 := (Below.refl w.heap.size w).alloc (Nat.le_refl _) (.cells c1 27)
  have HB := Lib.hid (B1.alloc B1.size (.cells c2 27))
  have hc1 := (((Blk.new w 27 c1).alloc (.cells c2 27)).cell 0).trans e1
  have hc2 := ((Blk.new (w.alloc (.cells c1 27)) 27 c2).cell 0).trans e2
  rw [World.size_alloc] at hc2
  unfold mkOk at h
  clear e1 e2 B1
  go_enter Try.func17, Try.ntmps17
  cases six1 with
  | false =>
    clear h
    go_wp2
    go_ret2
    exact ⟨rfl, HB.out⟩
  | true =>
    cases six2 with
    | false =>
      clear h
      go_wp2
      go_ret2
      exact ⟨rfl, HB.out⟩
    | true =>
      by_cases h0 : n < 0
      · clear h
        go_wp2
        go_ret2
        exact ⟨rfl, HB.out⟩
      · have h5 : 65535 < n := by
          rcases Int.lt_or_le 65535 n with h' | h'
          · exact h'
          · simp at h; omega
        clear h
        go_wp2
        go_ret2
        exact ⟨rfl, HB.out⟩
set_option maxRecDepth 100000 in
set_option maxHeartbeats 4000000 in
theorem rmake_yes (sb db : List Nat) (p n : Nat) (w : World) (hl1 : sb.length = 16) (hl2 : db.length = 16) (hn : n ≤ 65535) :
    Calls Try.prog 17 #[adr true sb, adr true db, .int .u8 (p : Int), .int .i64 (n : Int)] w fun e w' => ∃ x, e = .returned (.tuple #[x, .bool true]) ∧ w'.ownsRow w.heap.size 5 1 x 40 (nus .u8 (mk6 sb db p n)) ∧ Below w.heap.size w w' := by
  have CS := Lib.hid (fun w' => rbytes_own true sb hl1 w')
  have CD := Lib.hid (fun w' => rbytes_own true db hl2 w')
  unfold bytesA at CS CD
  rw [if_pos rfl, hl1] at CS
  rw [if_pos rfl, hl2] at CD
  unfold adr at CS CD ⊢
  have E1 := Lib.hid (show (cellsA true sb)[0]? = some (.bool true) from cellsA_head _ _)
  have E2 := Lib.hid (show (cellsA true db)[0]? = some (.bool true) from cellsA_head _ _)
  have z1 : (cellsA true sb).size = 17 := by rw [cellsA_size, hl1]
  have z2 : (cellsA true db).size = 17 := by rw [cellsA_size, hl2]
  have I1 := Lib.hid (i24.trans (congrArg some z1.symm))
  have I2 := Lib.hid (i24.trans (congrArg some z2.symm))
  obtain ⟨d1, hd1⟩ : ∃ d, d = n / 256 % 256 := ⟨_, rfl⟩
  obtain ⟨d2, hd2⟩ : ∃ d, d = n % 256 := ⟨_, rfl⟩
  have HM : Hid ([96, 0, 0, 0, d1, d2, p, 64] ++ sb ++ db = mk6 sb db p n) := by
    show _ = _
    rw [hd1, hd2]; simp [mk6, bg]
  have hw1 : IntKind.u8.wrap ((n : Int) / 256) = (d1 : Int) := by rw [IntKind.wrap_u8]; omega
  have hw2 : IntKind.u8.wrap (n : Int) = (d2 : Int) := by rw [IntKind.wrap_u8]; omega
  generalize mk6 sb db p n = M at *
  generalize cellsA true sb = c1 at *
  generalize cellsA true db = c2 at *
  have K := Lib.hid (Below.refl w.heap.size w)
  clear z1 z2 hl1 hl2 hd1 hd2
  go_enter Try.func17, Try.ntmps17
  have hal := (Below.refl w.heap.size w).alloc (Nat.le_refl _) (.cells c1 27)
  replace K := Lib.hid (K.out.trans (hal.mono K.out.size))
  have N1 := Lib.hid (Blk.new w 27 c1)
  clear hal
  have hal := (Below.refl (w.alloc (.cells c1 27)).heap.size (w.alloc (.cells c1 27))).alloc (Nat.le_refl _) (.cells c2 27)
  replace K := Lib.hid (K.out.trans (hal.mono K.out.size))
  replace N1 := Lib.hid (N1.out.below hal N1.out.lt)
  have N2q := Blk.new (w.alloc (.cells c1 27)) 27 c2
  simp only [World.size_alloc] at N2q
  have N2 := Lib.hid N2q
  clear N2q
  clear hal
  have hc1 := (N1.out.cell 0).trans E1.out
  have hc2 := (N2.out.cell 0).trans E2.out
  go_wp2_with fail
  have hzV1 : Hid (((w.alloc (.cells c1 27)).alloc (.cells c2 27)).heap.size = w.heap.size + 1 + 1) := by show _ = _; simp only [World.size_alloc]
  generalize ((w.alloc (.cells c1 27)).alloc (.cells c2 27)) = V1 at *
  clear hc1 hc2 E1 E2
  have O := Lib.hid (show (V1.alloc (.cells #[Value.int .u8 96, .int .u8 0, .int .u8 0, .int .u8 0, .int .u8 (d1 : Int), .int .u8 (d2 : Int), .int .u8 (p : Int), .int .u8 64] 5)).ownsRow V1.heap.size 5 1 (.slice (some ⟨V1.heap.size, 0, none⟩) 8 8) 8 (nus .u8 [96, 0, 0, 0, d1, d2, p, 64]) from own_lit V1 .u8 5 [96, 0, 0, 0, d1, d2, p, 64] 8 V1.heap.size rfl (by simp [maxLen]) (Nat.le_refl _))
  have q2 : w.heap.size + 1 < V1.heap.size := N2.out.lt
  have q1 : w.heap.size < V1.heap.size := by omega
  have hal := (Below.refl V1.heap.size V1).alloc (Nat.le_refl _) (.cells #[Value.int .u8 96, .int .u8 0, .int .u8 0, .int .u8 0, .int .u8 (d1 : Int), .int .u8 (d2 : Int), .int .u8 (p : Int), .int .u8 64] 5)
  have hbase := K.out.size
  replace K := Lib.hid (K.out.trans (hal.mono K.out.size))
  replace N1 := Lib.hid (N1.out.below hal N1.out.lt)
  replace N2 := Lib.hid (N2.out.below hal N2.out.lt)
  generalize V1.alloc (.cells #[Value.int .u8 96, .int .u8 0, .int .u8 0, .int .u8 0, .int .u8 (d1 : Int), .int .u8 (d2 : Int), .int .u8 (p : Int), .int .u8 64] 5) = V2 at *
  have hlow : V1.heap.size ≤ V2.heap.size := hal.size
  clear hal
  obtain ⟨g0, hg0⟩ : ∃ g, g = w.heap.size + 1 + 1 := ⟨_, rfl⟩
  rw [hzV1.out, ← hg0] at O hlow hbase q1 q2
  rw [← hg0]
  clear hg0
  refine wp_region_held (S := (fun w' : World => Below (g0) V2 w')) (by kernel_rfl) ?_
  change wpAnyH _ _ _ _ _ _ _ _ V2.drew
  have hy : Below V2.heap.size V2 V2.drew := (Below.refl _ _).drew
  have hE0 : Below (g0) V2 V2.drew := (Below.refl _ _).drew
  replace O := Lib.hid (row_under O.out hy)
  clear hy
  generalize V2.drew = Y4x0 at hE0 O ⊢
  have E0 := Lib.hid hE0
  clear hE0
  refine tkA 0 (?_) ?_ E0.out ?_
  rotate_left
  · (intro w1 hS; go_simp; try with_reducible rfl)
  simp only [Act.put, tS1, tS2, tS3]
  refine tkA 1 (.agg c1) ?_ E0.out ?_
  · (intro w1 hS; have hW := hS; exact exec_load 27 (.tmp 4) rfl _ rfl _ (run_blk_load (P := Try.prog) 27 (w.heap.size) _ (N1.out.below hW (by omega)) Try.underlying27 rfl I1.out))
  simp only [Act.put, tS1, tS2, tS3]
  refine tkA 4 (.agg c2) ?_ E0.out ?_
  · (intro w1 hS; have hW := hS; exact exec_load 27 (.tmp 5) rfl _ rfl _ (run_blk_load (P := Try.prog) 27 (w.heap.size + 1) _ (N2.out.below hW (by omega)) Try.underlying27 rfl I2.out))
  simp only [Act.put, tS1, tS2, tS3]
  refine tkO 2 (fun K hK => ?_)
  go_simp
  refine (CS.out Y4x0).mono ?_
  rintro e Y4x1 ⟨z, rfl, hz, hy⟩
  replace O := Lib.hid (row_under O.out hy)
  have E1 := Lib.hid (E0.out.trans (hy.mono (Nat.le_trans hlow E0.out.size)))
  have C1 := Lib.hid E1.out
  have Z := Lib.hid (hz)
  clear hz
  clear hy E0
  refine hK.out _ _ C1.out (fun _ => ?_)
  clear hK K
  clear C1
  try simp only [Act.put, tS1, tS2, tS3]
  obtain ⟨gz, cz, rfl, -, -, -, -⟩ := own_at Z.out (by omega)
  refine tkO 3 (fun K hK => ?_)
  rw [if_pos (by rfl)]
  refine wp_app (.tmp 34) (.tmp 36) rfl (g0) (.slice (some ⟨g0, 0, none⟩) (8) 8) (8) [96, 0, 0, 0, d1, d2, p, 64] rfl O.out (some ⟨gz, 0, none⟩) (16) (cz) sb rfl (Rd.own Z.out) (by intro e; cases e) (by omega) (Nat.le_trans hlow E1.out.size) ?_
  intro vx Y4x2 oz gz
  clear Z
  replace O := Lib.hid oz
  clear oz
  have E2 := Lib.hid (E1.out.grown gz (Nat.le_trans hlow E1.out.size) (fun k e => by cases e; first | exact Nat.le_refl _ | omega))
  obtain ⟨g1, cz1, rfl, hcz1, hcz1m, hg1, hg1u⟩ := own_at O.out (by omega)
  clear gz E1
  refine hK.out _ _ E2.out (fun _ => ?_)
  clear hK K
  try simp only [Act.put, tS1, tS2, tS3]
  refine tkO 5 (fun K hK => ?_)
  go_simp
  refine (CD.out Y4x2).mono ?_
  rintro e Y4x3 ⟨z, rfl, hz, hy⟩
  replace O := Lib.hid (row_under O.out hy)
  have E3 := Lib.hid (E2.out.trans (hy.mono (Nat.le_trans hlow E2.out.size)))
  have C3 := Lib.hid E3.out
  have Z := Lib.hid (hz)
  clear hz
  clear hy E2
  refine hK.out _ _ C3.out (fun _ => ?_)
  clear hK K
  clear C3
  try simp only [Act.put, tS1, tS2, tS3]
  obtain ⟨gz, cz, rfl, -, -, -, -⟩ := own_at Z.out (by omega)
  refine tkO 6 (fun K hK => ?_)
  rw [if_pos (by rfl)]
  refine wp_app (.tmp 37) (.tmp 39) rfl (g0) (.slice (some ⟨g1, 0, none⟩) (8 + 16) cz1) (8 + 16) ([96, 0, 0, 0, d1, d2, p, 64] ++ sb) rfl O.out (some ⟨gz, 0, none⟩) (16) (cz) db rfl (Rd.own Z.out) (by intro e; cases e) (by omega) (Nat.le_trans hlow E3.out.size) ?_
  intro vx Y4x4 oz gz
  clear Z
  replace O := Lib.hid oz
  clear oz
  have E4 := Lib.hid (E3.out.grown gz (Nat.le_trans hlow E3.out.size) (fun k e => by cases e; first | exact Nat.le_refl _ | omega))
  obtain ⟨g2, cz2, rfl, hcz2, hcz2m, hg2, hg2u⟩ := own_at O.out (by omega)
  clear gz E3
  refine hK.out _ _ E4.out (fun _ => ?_)
  clear hK K
  try simp only [Act.put, tS1, tS2, tS3]
  refine tkA 7 (?_) ?_ E4.out ?_
  rotate_left
  · (intro w1 hS; go_simp; try with_reducible rfl)
  simp only [Act.put, tS1, tS2, tS3]
  refine tkA 8 (?_) ?_ E4.out ?_
  rotate_left
  · (intro w1 hS; go_simp; try with_reducible rfl)
  simp only [Act.put, tS1, tS2, tS3]
  refine wpAnyH_done (by kernel_rfl) ?_ _
  replace K := Lib.hid (K.out.trans (E4.out.mono (by omega)))
  replace N1 := Lib.hid (N1.out.below E4.out (by omega))
  replace N2 := Lib.hid (N2.out.below E4.out (by omega))
  clear E4
  rw [HM.out] at O
  go_wp2
  go_ret2
  exact ⟨_, rfl, own_low hbase O.out, K.out⟩
theorem rmake_any (six1 six2 : Bool) (sb db : List Nat) (p : Nat) (n : Int) (w : World) (hl1 : sb.length = 16) (hl2 : db.length = 16) :
    Calls Try.prog 17 #[adr six1 sb, adr six2 db, .int .u8 (p : Int), .int .i64 n] w fun e w' => ∃ x, e = .returned (.tuple #[x, .bool (mkOk six1 six2 n)]) ∧ Rd w' x (nus .u8 (mOut six1 six2 sb db p n)) ∧ Below w.heap.size w w' := by
  unfold mOut
  by_cases h : mkOk six1 six2 n = true
  · have h' := h
    unfold mkOk at h'
    obtain ⟨rfl, rfl, h0, h1⟩ : six1 = true ∧ six2 = true ∧ 0 ≤ n ∧ n ≤ 65535 := by simpa [and_assoc] using h'
    obtain ⟨k, rfl⟩ := Int.eq_ofNat_of_zero_le h0
    rw [if_pos h, h]
    exact (rmake_yes sb db p k w hl1 hl2 (by omega)).mono fun _ _ ⟨x, e, o, b⟩ => ⟨x, e, Rd.own o, b⟩
  · rw [if_neg h, Bool.eq_false_iff.2 h]
    exact (rmake_no six1 six2 sb db p n w (Bool.eq_false_iff.2 h)).mono fun _ _ ⟨e, b⟩ => ⟨_, e, rd_nil _ _, b⟩
end Go.Proofs.Ytnpibdjfafpegaa
