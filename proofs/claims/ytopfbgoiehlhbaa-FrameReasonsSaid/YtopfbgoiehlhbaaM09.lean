/- Texts that the walks of this seat lean on, put together: each has its own remark below. -/
import Derived.Test.YtopfbgoiehlhbaaM01
import Derived.Test.YtopfbgoiehlhbaaM02
import Derived.Test.YtopfbgoiehlhbaaM03
import Derived.Test.YtopfbgoiehlhbaaM05
import Derived.Test.YtopfbgoiehlhbaaM06
import Derived.Test.YtopfbgoiehlhbaaM07
import Derived.Test.YtopfbgoiehlhbaaM08

/- seg.Good. -/
namespace Go.Proofs.Ytopfbgoiehlhbaa
open Go.RowKit

/-- The sum over the pseudo header and a segment. -/
def tsum (p : Nat) (zs : List Nat) (v : Bool) (S D : List Nat) : Nat := wsp 0 (psd v S D p zs.length) + wsp 0 zs
/-- Whether a segment is good. -/
def gd (p : Nat) (zs : List Nat) (v1 : Bool) (S : List Nat) (v2 : Bool) (D : List Nat) : Bool :=
  decide (fs p zs = 0 ∧ v1 = v2) && (wo p zs || decide (gr (tsum p zs v1 S D) = 65535))
theorem wsp_joined (v : Bool) (S D : List Nat) (p : Nat) (zs : List Nat) (hS : S.length = 16) (hD : D.length = 16) : wsp 0 (psd v S D p zs.length ++ zs) = tsum p zs v S D := by
  unfold tsum
  rw [wsp_append, psd_len v S D p _ hS hD]
  congr 1
  exact wsp_eq _ _ _ (by split <;> rfl)

set_option maxRecDepth 100000 in
set_option maxHeartbeats 1000000 in
theorem good_no (p : Nat) (v : Value) (zs : List Nat) (v1 : Bool) (F : List Nat) (v2 : Bool) (D : List Nat) (w : World) (hr : Rd w v (nus .u8 zs)) (hb : ∀ c ∈ zs, c < 256) (h : fs p zs ≠ 0 ∨ v1 ≠ v2) :
    Calls Try.prog 27 #[.int .u8 (p : Int), v, adr v1 F, adr v2 D] w fun e w' => e = .returned (.bool false) ∧ Below w.heap.size w w' := by
  obtain ⟨a, cap, rfl, -, -⟩ := rd_shape hr
  unfold adr
  have e1 : (cellsA v1 F)[0]? = some (.bool v1) := cellsA_head _ _
  have e2 : (cellsA v2 D)[0]? = some (.bool v2) := cellsA_head _ _
  generalize cellsA v1 F = c1 at *
  generalize cellsA v2 D = c2 at *
  have B1 := (Below.refl w.heap.size w).alloc (Nat.le_refl _) (.cells c1 26)
  have hB2 := B1.alloc B1.size (.cells c2 26)
  have CF := Lib.hid (fault_any p _ zs _ (hr.below hB2) hb)
  have HB := Lib.hid hB2
  have hc1 := (((Blk.new w 26 c1).alloc (.cells c2 26)).cell 0).trans e1
  have hc2 := ((Blk.new (w.alloc (.cells c1 26)) 26 c2).cell 0).trans e2
  rw [World.size_alloc] at hc2
  generalize fs p zs = r at *
  generalize zs.length = n at *
  clear e1 e2 B1 hB2 hr hb
  by_cases hr0 : r = 0
  · have hv : v1 ≠ v2 := by rcases h with h | h; exact absurd hr0 h; exact h
    subst hr0
    clear h
    cases v1 <;> cases v2
    · exact absurd rfl hv
    · clear hv
      go_enter Try.func27, Try.ntmps27
      go_wp2_with fail
      refine CF.out.mono ?_; rintro e w' ⟨rfl, rfl⟩
      go_wp2
      go_ret
      exact ⟨rfl, HB.out⟩
    · clear hv
      go_enter Try.func27, Try.ntmps27
      go_wp2_with fail
      refine CF.out.mono ?_; rintro e w' ⟨rfl, rfl⟩
      go_wp2
      go_ret
      exact ⟨rfl, HB.out⟩
    · exact absurd rfl hv
  · have g0 : ((r : Int) != 0) = true := by simp; omega
    clear h hr0 hc1 hc2
    go_enter Try.func27, Try.ntmps27
    go_wp2_with fail
    refine CF.out.mono ?_; rintro e w' ⟨rfl, rfl⟩
    go_wp2
    go_ret
    exact ⟨rfl, HB.out⟩

set_option maxRecDepth 100000 in
set_option maxHeartbeats 2000000 in
theorem good_yes (p : Nat) (v : Value) (zs : List Nat) (v1 : Bool) (S D : List Nat) (w : World) (hr : Rd w v (nus .u8 zs)) (hb : ∀ c ∈ zs, c < 256) (h : fs p zs = 0) (hz : zs.length < 65536) (hp : p < 256)
    (hS : S.length = 16) (hD : D.length = 16) (hbS : ∀ c ∈ S, c < 256) (hbD : ∀ c ∈ D, c < 256) :
    Calls Try.prog 27 #[.int .u8 (p : Int), v, adr v1 S, adr v1 D] w fun e w' => e = .returned (.bool (wo p zs || decide (gr (tsum p zs v1 S D) = 65535))) ∧ Below w.heap.size w w' := by
  have hn8 : 8 ≤ zs.length := by rcases fs_yes p zs h with ⟨-, h1, -⟩ | ⟨-, h1, -⟩ <;> omega
  have CF := Lib.hid (fun W (h : Rd W v (nus .u8 zs)) => fault_any p _ zs W h hb)
  rw [h] at CF
  have CT := Lib.hid (fun W (h : Rd W v (nus .u8 zs)) => without_any p _ zs W h hb (fun _ => by omega))
  have CP := Lib.hid (fun W => pseudo_any p zs.length v1 S D W hz hS hD)
  have lP := psd_len v1 S D p zs.length hS hD
  have CS1 := Lib.hid (fun W x (h : Rd W x (nus .u8 (psd v1 S D p zs.length))) => sum_any x (psd v1 S D p zs.length) 0 W h (by rw [lP]; split <;> omega) (psd_lt v1 S D p zs.length hbS hbD hp) (by omega))
  have hg := gr_le (0 + wsp 0 (psd v1 S D p zs.length))
  have CS2 := Lib.hid (fun W (h : Rd W v (nus .u8 zs)) => sum_any v zs (gr (0 + wsp 0 (psd v1 S D p zs.length))) W h (by omega) hb (by omega))
  have HT := Lib.hid (show gr (gr (0 + wsp 0 (psd v1 S D p zs.length)) + wsp 0 zs) = gr (tsum p zs v1 S D) by rw [gr_add, Nat.zero_add]; rfl)
  have hgt := gr_le (tsum p zs v1 S D)
  unfold adr at CP ⊢
  have E1 := Lib.hid (show (cellsA v1 S)[0]? = some (.bool v1) from cellsA_head _ _)
  have E2 := Lib.hid (show (cellsA v1 D)[0]? = some (.bool v1) from cellsA_head _ _)
  have z1 : (cellsA v1 S).size = 17 := by rw [cellsA_size, hS]
  have z2 : (cellsA v1 D).size = 17 := by rw [cellsA_size, hD]
  have I1 := Lib.hid (i24.trans (congrArg some z1.symm))
  have I2 := Lib.hid (i24.trans (congrArg some z2.symm))
  have K := Lib.hid (Below.refl w.heap.size w)
  have HR := Lib.hid hr
  obtain ⟨a, cap, rfl, hlc, hlm⟩ := rd_shape hr
  clear hr hb h z1 z2 hbS hbD lP hS hD
  generalize cellsA v1 S = c1 at *
  generalize cellsA v1 D = c2 at *
  generalize gr (tsum p zs v1 S D) = gt at *
  generalize gr (0 + wsp 0 (psd v1 S D p zs.length)) = g1 at *
  generalize psd v1 S D p zs.length = ps at *
  generalize wo p zs = wq at *
  obtain ⟨x2, hx2⟩ : ∃ x, x = gr (g1 + wsp 0 zs) := ⟨_, rfl⟩
  rw [← hx2] at CS2 HT
  have HT2 := HT.out
  subst HT2
  clear hx2 HT
  generalize zs.length = n at *
  unfold maxLen at hlm
  generalize hdq : decide (x2 = 65535) = dq
  have HDQ := Lib.hid hdq
  clear hdq
  go_enter Try.func27, Try.ntmps27
  have hal := (Below.refl w.heap.size w).alloc (Nat.le_refl _) (.cells c1 26)
  replace K := Lib.hid (K.out.trans (hal.mono K.out.size))
  have N1 := Lib.hid (Blk.new w 26 c1)
  clear hal
  have hal := (Below.refl (w.alloc (.cells c1 26)).heap.size (w.alloc (.cells c1 26))).alloc (Nat.le_refl _) (.cells c2 26)
  replace K := Lib.hid (K.out.trans (hal.mono K.out.size))
  replace N1 := Lib.hid (N1.out.below hal N1.out.lt)
  have N2q := Blk.new (w.alloc (.cells c1 26)) 26 c2
  simp only [World.size_alloc] at N2q
  have N2 := Lib.hid N2q
  clear N2q
  clear hal
  have hc1 := (N1.out.cell 0).trans E1.out
  have hc2 := (N2.out.cell 0).trans E2.out
  have ge : (v1 != v1) = false := by cases v1 <;> rfl
  go_wp2_with fail
  have hzV1 : Hid (((w.alloc (.cells c1 26)).alloc (.cells c2 26)).heap.size = w.heap.size + 1 + 1) := by show _ = _; simp only [World.size_alloc]
  generalize ((w.alloc (.cells c1 26)).alloc (.cells c2 26)) = V1 at *
  refine (CF.out _ (HR.out.below K.out)).mono ?_
  rintro e V2 ⟨rfl, rfl⟩
  go_wp2_with fail
  refine (CT.out _ (HR.out.below K.out)).mono ?_
  rintro e V3 ⟨rfl, rfl⟩
  cases wq with
  | true =>
    clear hc1 hc2
    go_wp2
    go_ret
    exact ⟨rfl, K.out⟩
  | false =>
    clear hc1 hc2 ge
    have L1 : (loadVar 26 ⟨w.heap.size, 0, none⟩).run Try.prog V1 = .ok (.agg c1) V1 := run_blk_load (P := Try.prog) 26 (w.heap.size) _ N1.out Try.underlying26 rfl I1.out
    replace L1 := Lib.hid L1
    have L2 : (loadVar 26 ⟨w.heap.size + 1, 0, none⟩).run Try.prog V1 = .ok (.agg c2) V1 := run_blk_load (P := Try.prog) 26 (w.heap.size + 1) _ N2.out Try.underlying26 rfl I2.out
    replace L2 := Lib.hid L2
    go_wp2_with (first | ((with_reducible refine wpList_load_want (op := ⟨some 27, .load 26 (.tmp 6), _, _, _, _⟩) ?wg1 26 (.tmp 6) ?wo1 ⟨w.heap.size, 0, none⟩ ?wx1 (.agg c1) L1.out ?_); (case wg1 => rfl); (case wo1 => rfl); (case wx1 => rfl)) | ((with_reducible refine wpList_load_want (op := ⟨some 28, .load 26 (.tmp 7), _, _, _, _⟩) ?wg2 26 (.tmp 7) ?wo2 ⟨w.heap.size + 1, 0, none⟩ ?wx2 (.agg c2) L2.out ?_); (case wg2 => rfl); (case wo2 => rfl); (case wx2 => rfl)))
    clear L1 L2
    refine (CP.out _).mono ?_
    rintro e V4 ⟨x, rfl, rx, hy⟩
    replace K := Lib.hid (K.out.trans (hy.mono K.out.size))
    replace N1 := Lib.hid (N1.out.below hy N1.out.lt)
    replace N2 := Lib.hid (N2.out.below hy N2.out.lt)
    have X := Lib.hid (rx)
    clear rx
    clear hy
    go_wp2_with fail
    refine (CS1.out _ _ X.out).mono ?_
    rintro e V5 ⟨rfl, hy⟩
    replace K := Lib.hid (K.out.trans (hy.mono K.out.size))
    replace N1 := Lib.hid (N1.out.below hy N1.out.lt)
    replace N2 := Lib.hid (N2.out.below hy N2.out.lt)
    replace X := Lib.hid (X.out.below hy)
    clear hy
    go_wp2_with fail
    refine (CS2.out _ (HR.out.below K.out)).mono ?_
    rintro e V6 ⟨rfl, hy⟩
    replace K := Lib.hid (K.out.trans (hy.mono K.out.size))
    replace N1 := Lib.hid (N1.out.below hy N1.out.lt)
    replace N2 := Lib.hid (N2.out.below hy N2.out.lt)
    replace X := Lib.hid (X.out.below hy)
    clear hy
    cases dq with
    | true =>
      have e := of_decide_eq_true HDQ.out
      subst e
      go_wp2
      go_ret
      exact ⟨rfl, K.out⟩
    | false =>
      have e := of_decide_eq_false HDQ.out
      have ge : ((x2 : Int) == 65535) = false := by rw [beq_eq_false_iff_ne]; omega
      clear e
      go_wp2
      go_ret
      exact ⟨rfl, K.out⟩

theorem good_any (p : Nat) (v : Value) (zs : List Nat) (v1 : Bool) (S : List Nat) (v2 : Bool) (D : List Nat) (w : World) (hr : Rd w v (nus .u8 zs)) (hb : ∀ c ∈ zs, c < 256) (hz : zs.length < 65536) (hp : p < 256)
    (hS : S.length = 16) (hD : D.length = 16) (hbS : ∀ c ∈ S, c < 256) (hbD : ∀ c ∈ D, c < 256) :
    Calls Try.prog 27 #[.int .u8 (p : Int), v, adr v1 S, adr v2 D] w fun e w' => e = .returned (.bool (gd p zs v1 S v2 D)) ∧ Below w.heap.size w w' := by
  unfold gd
  by_cases h : fs p zs = 0 ∧ v1 = v2
  · rw [decide_eq_true h, Bool.true_and]
    obtain ⟨h1, rfl⟩ := h
    exact good_yes p v zs v1 S D w hr hb h1 hz hp hS hD hbS hbD
  · rw [decide_eq_false h, Bool.false_and]
    exact good_no p v zs v1 S v2 D w hr hb (by by_cases h1 : fs p zs = 0; exact .inr (fun e => h ⟨h1, e⟩); exact .inl h1)
end Go.Proofs.Ytopfbgoiehlhbaa

/- ipsix.Dest. -/
namespace Go.Proofs.Ytopfbgoiehlhbaa
open Go.RowKit
/-- The packet with another destination. -/
def dst6 (zs t : List Nat) : List Nat := ov zs t 24
end Go.Proofs.Ytopfbgoiehlhbaa

/- ipsix.Make. -/
namespace Go.Proofs.Ytopfbgoiehlhbaa
open Go.RowKit

/-- A header. -/
def mk6 (s d : List Nat) (p n : Nat) : List Nat := [96, 0, 0, 0] ++ bg 2 n ++ [p, 64] ++ s ++ d
/-- Whether a header is made. -/
def mkOk (six1 six2 : Bool) (n : Int) : Bool := six1 && six2 && decide (0 ≤ n) && decide (n ≤ 65535)
theorem mk6_steps (s d : List Nat) (hs : s.length = 16) (hd : d.length = 16) (p n : Nat) :
    ov (ov (((putRow ((List.replicate 40 0).set 0 96) 4 2 n 2).set 6 p).set 7 64) s 8) d 24 = mk6 s d p n := by
  obtain ⟨s0, s1, s2, s3, s4, s5, s6, s7, s8, s9, s10, s11, s12, s13, s14, s15, rfl⟩ := list16 s hs
  obtain ⟨d0, d1, d2, d3, d4, d5, d6, d7, d8, d9, d10, d11, d12, d13, d14, d15, rfl⟩ := list16 d hd
  rfl
theorem mk6_length (s d : List Nat) (hs : s.length = 16) (hd : d.length = 16) (p n : Nat) : (mk6 s d p n).length = 40 := by simp [mk6, bg_length, hs, hd]
theorem mk6_lt (s d : List Nat) (p n : Nat) (hs : ∀ c ∈ s, c < 256) (hd : ∀ c ∈ d, c < 256) (hp : p < 256) : ∀ c ∈ mk6 s d p n, c < 256 := by
  intro c hc
  unfold mk6 at hc
  simp only [List.mem_append] at hc
  rcases hc with (((h | h) | h) | h) | h
  · simp at h; omega
  · exact bg_lt 2 _ c h
  · simp at h; omega
  · exact hs c h
  · exact hd c h

/-- What Make answers. -/
def mOut (six1 six2 : Bool) (sb db : List Nat) (p : Nat) (n : Int) : List Nat := if mkOk six1 six2 n then mk6 sb db p n.toNat else []
/-- What Dest answers. -/
def dOut (zs : List Nat) (six : Bool) (bs : List Nat) : List Nat := if f6 zs = 0 ∧ six = true then dst6 zs bs else []
end Go.Proofs.Ytopfbgoiehlhbaa

/- A frame of a flow as it is built, in plain numbers. Nothing of the program. -/
namespace Go.Proofs.Ytopfbgoiehlhbaa
open Go.RowKit

/-- What stands between the ports and the data, without a checksum. -/
def midB (p f m : Nat) : List Nat := if p = 6 then [0, 0, 0, 0, 0, 0, 0, 0, 80, f, 0, 0, 0, 0, 0, 0] else bg 2 (8 + m) ++ [0, 0]
/-- A segment without a checksum. -/
def seg0 (p sp dp f : Nat) (data : List Nat) : List Nat := bg 2 sp ++ bg 2 dp ++ midB p f data.length ++ data
/-- The size of a header. -/
def hsz (p : Nat) : Nat := if p = 6 then 20 else 8
theorem midB_len (p f m : Nat) : (midB p f m).length + 4 = hsz p := by unfold midB hsz; split <;> simp [bg_length]
theorem seg0_len (p sp dp f : Nat) (data : List Nat) : (seg0 p sp dp f data).length = hsz p + data.length := by
  have := midB_len p f data.length
  unfold seg0; simp only [List.length_append, bg_length]; omega
theorem midB_lt (p f m : Nat) (hf : f < 256) : ∀ c ∈ midB p f m, c < 256 := by
  intro c hc
  unfold midB at hc
  split at hc
  · simp at hc; omega
  · rcases List.mem_append.1 hc with h | h
    · exact bg_lt 2 _ c h
    · simp at h; omega
theorem seg0_lt (p sp dp f : Nat) (data : List Nat) (hf : f < 256) (hd : ∀ c ∈ data, c < 256) : ∀ c ∈ seg0 p sp dp f data, c < 256 := by
  intro c hc
  unfold seg0 at hc
  rcases List.mem_append.1 hc with h | h
  · rcases List.mem_append.1 h with h | h
    · rcases List.mem_append.1 h with h | h
      · exact bg_lt 2 _ c h
      · exact bg_lt 2 _ c h
    · exact midB_lt p f _ hf c h
  · exact hd c h
/-- The checksum of a segment that is built. -/
def ckB (p : Nat) (v : Bool) (S D : List Nat) (s0 : List Nat) : Nat :=
  if p = 17 ∧ 65535 - gr (tsum p s0 v S D) = 0 then 65535 else 65535 - gr (tsum p s0 v S D)
theorem ckB_lt (p : Nat) (v : Bool) (S D s0 : List Nat) : ckB p v S D s0 < 65536 := by unfold ckB; split <;> omega
/-- The segment. -/
def segB (p : Nat) (v : Bool) (S D : List Nat) (sp dp f : Nat) (data : List Nat) (bare : Bool) : List Nat :=
  if p = 17 ∧ bare = true then seg0 p sp dp f data else ov (seg0 p sp dp f data) (bg 2 (ckB p v S D (seg0 p sp dp f data))) (sAt p)
theorem segB_len (p : Nat) (hp : p = 6 ∨ p = 17) (v : Bool) (S D : List Nat) (sp dp f : Nat) (data : List Nat) (bare : Bool) : (segB p v S D sp dp f data bare).length = hsz p + data.length := by
  unfold segB
  split
  · exact seg0_len _ _ _ _ _
  · rw [ov_length _ _ _ (by rw [bg_length, seg0_len]; rcases hp with rfl | rfl <;> simp [sAt, hsz] <;> omega), seg0_len]
theorem segB_lt (p : Nat) (v : Bool) (S D : List Nat) (sp dp f : Nat) (data : List Nat) (bare : Bool) (hf : f < 256) (hd : ∀ c ∈ data, c < 256) : ∀ c ∈ segB p v S D sp dp f data bare, c < 256 := by
  unfold segB
  split
  · exact seg0_lt _ _ _ _ _ hf hd
  · exact ov_lt _ _ _ (seg0_lt _ _ _ _ _ hf hd) (bg_lt 2 _)
/-- What stands ahead of the packet. -/
def ethB (tag v : Bool) : List Nat := [1, 2, 3, 4, 5, 6, 7, 8, 9, 10, 11, 12] ++ (if tag then [129, 0, 0, 7] else []) ++ (if v then [134, 221] else [8, 0])
/-- The packet's header. -/
def headB (v : Bool) (S D : List Nat) (p n : Nat) : List Nat := if v then mk6 S D p n else mk4 (S.take 4) (D.take 4) p n
def frmB (v : Bool) (S D : List Nat) (p sp dp f : Nat) (data : List Nat) (tag bare : Bool) (pad : Nat) : List Nat :=
  ethB tag v ++ headB v S D p (hsz p + data.length) ++ segB p v S D sp dp f data bare ++ List.replicate pad 0
/-- The first bytes of a frame, so many of them filled in. -/
def f12 (j : Nat) : List Nat := (List.range 12).map fun i => if i < j then i + 1 else 0
theorem f12_len (j : Nat) : (f12 j).length = 12 := by simp [f12]
theorem f12_zero : f12 0 = List.replicate 12 0 := by decide
theorem f12_all : f12 12 = [1, 2, 3, 4, 5, 6, 7, 8, 9, 10, 11, 12] := by decide
theorem f12_step (j : Nat) (h : j < 12) : (f12 j).set j (j + 1) = f12 (j + 1) := by
  have : ∀ j : Fin 12, (f12 j.1).set j.1 (j.1 + 1) = f12 (j.1 + 1) := by decide
  exact this ⟨j, h⟩
end Go.Proofs.Ytopfbgoiehlhbaa

/- A header of IPv6 that was made, with data behind: what is read of it, and where it goes. Nothing of the program. -/
namespace Go.Proofs.Ytopfbgoiehlhbaa
open Go.RowKit

theorem take_app {α : Type} (a b : List α) (n : Nat) (h : a.length = n) : (a ++ b).take n = a := by subst h; simp
theorem drop_app {α : Type} (a b : List α) (n : Nat) (h : a.length = n) : (a ++ b).drop n = b := by subst h; simp
theorem bg2 (n : Nat) : bg 2 n = [n / 256 % 256, n % 256] := rfl
theorem mk6_cons (s d data : List Nat) (p n : Nat) : mk6 s d p n ++ data = [96, 0, 0, 0, n / 256 % 256, n % 256, p, 64] ++ (s ++ (d ++ data)) := by
  simp [mk6, bg2]
theorem mk6_u2 (s d data : List Nat) (p n : Nat) (hn : n ≤ 65535) : u2 (mk6 s d p n ++ data) 4 = n := by
  rw [mk6_cons]
  simp [u2]; omega
theorem mk6_f (s d data : List Nat) (p n : Nat) (hs : s.length = 16) (hd : d.length = 16) (hn : n ≤ 65535) (hp : p = 6 ∨ p = 17) (hl : n ≤ data.length) : f6 (mk6 s d p n ++ data) = 0 := by
  have hlen : (mk6 s d p n ++ data).length = 40 + data.length := by rw [List.length_append, mk6_length s d hs hd]
  have h0 : (mk6 s d p n ++ data).getD 0 0 = 96 := rfl
  have h6 : (mk6 s d p n ++ data).getD 6 0 = p := by rw [mk6_cons]; rfl
  unfold f6
  rw [hlen, mk6_u2 s d data p n hn, h0, h6, if_neg (by omega), if_neg (by omega), if_neg (by omega), if_neg (by omega), if_neg (by omega)]
theorem mk6_cut (s d data : List Nat) (p n : Nat) (hs : s.length = 16) (hd : d.length = 16) (hn : n ≤ 65535) (c : Nat) (hc : c < 40 + n) (hl : c ≤ 40 + data.length) : f6 ((mk6 s d p n ++ data).take c) = 1 := by
  have hlen : ((mk6 s d p n ++ data).take c).length = c := by rw [List.length_take, List.length_append, mk6_length s d hs hd]; omega
  unfold f6
  by_cases h : c < 40
  · rw [hlen, if_pos h]
  · rw [hlen, u2_take _ _ _ (by omega), mk6_u2 s d data p n hn, getD_take _ _ _ (by omega)]
    have h0 : (mk6 s d p n ++ data).getD 0 0 = 96 := rfl
    rw [h0, if_neg h, if_neg (by omega), if_pos hc]
theorem mk6_src (s d data : List Nat) (p n : Nat) (hs : s.length = 16) : ((mk6 s d p n ++ data).drop 8).take 16 = s := by
  rw [mk6_cons, drop_app _ _ 8 rfl, take_app _ _ 16 hs]
theorem mk6_dst (s d data : List Nat) (p n : Nat) (hs : s.length = 16) (hd : d.length = 16) : ((mk6 s d p n ++ data).drop 24).take 16 = d := by
  rw [mk6_cons, show [96, 0, 0, 0, n / 256 % 256, n % 256, p, 64] ++ (s ++ (d ++ data)) = ([96, 0, 0, 0, n / 256 % 256, n % 256, p, 64] ++ s) ++ (d ++ data) by simp, drop_app _ _ 24 (by simp [hs]), take_app _ _ 16 hd]
theorem mk6_hd (s d data : List Nat) (p n : Nat) (hs : s.length = 16) (hd : d.length = 16) (hn : n ≤ 65535) (hp : p = 6 ∨ p = 17) (hl : n ≤ data.length) :
    hd6 (mk6 s d p n ++ data) = scells (40 + n) p (cellsA true s) (cellsA true d) := by
  have h6 : (mk6 s d p n ++ data).getD 6 0 = p := by rw [mk6_cons]; rfl
  unfold hd6 srcA dstA
  rw [if_pos (mk6_f s d data p n hs hd hn hp hl), mk6_u2 s d data p n hn, h6, mk6_src s d data p n hs, mk6_dst s d data p n hs hd]
theorem mk6_go (s d e data : List Nat) (p n : Nat) (hs : s.length = 16) (hd : d.length = 16) (he : e.length = 16) : dst6 (mk6 s d p n ++ data) e = mk6 s e p n ++ data := by
  unfold dst6 ov
  have h : mk6 s d p n ++ data = ([96, 0, 0, 0, n / 256 % 256, n % 256, p, 64] ++ s) ++ (d ++ data) := by rw [mk6_cons]; simp
  rw [h, he, take_app _ _ 24 (by simp [hs]), show ([96, 0, 0, 0, n / 256 % 256, n % 256, p, 64] ++ s) ++ (d ++ data) = ([96, 0, 0, 0, n / 256 % 256, n % 256, p, 64] ++ s ++ d) ++ data by simp, drop_app _ _ 40 (by simp [hs, hd]), mk6_cons]
  simp
end Go.Proofs.Ytopfbgoiehlhbaa

/- A header with its checksum put to it is right; where one bit of the checksum is turned it is not. Nothing of the program. -/
namespace Go.Proofs.Ytopfbgoiehlhbaa
open Go.RowKit

theorem gr_full (u : Nat) : gr u = 65535 ↔ u ≠ 0 ∧ u % 65535 = 0 := by unfold gr; split <;> omega
theorem ck_zero (b : List Nat) : ck b = 0 ↔ wsp 0 b ≠ 0 ∧ wsp 0 b % 65535 = 0 := by
  rw [← gr_full]
  have := gr_le (wsp 0 b)
  unfold ck
  omega
theorem wsp_first (b : List Nat) (h : 0 < b.length) (h0 : 0 < b.getD 0 0) : wsp 0 b ≠ 0 := by
  cases b with
  | nil => cases h
  | cons x r =>
    have : 0 < x := by simpa using h0
    simp only [wsp]
    rw [wt_even 0 rfl]
    omega
/-- The checksum of a row whose own checksum is 0, put to it: the whole is right. -/
theorem ck_put (H : List Nat) (h20 : 12 ≤ H.length) (h0 : 0 < H.getD 0 0) (hz : u2 H 10 = 0) : ck (ov H (bg 2 (ck H)) 10) = 0 := by
  have hl := bg_length 2 (ck H)
  have h1 := ov_wsp H (bg 2 (ck H)) 10 rfl (by rw [hl]; omega) (by rw [hl])
  rw [hl, wsp_two_at H 10 (by omega), hz, wsp_bg _ (by have := ck_le H; omega)] at h1
  have h2 := ck_mod H
  rw [ck_zero]
  refine ⟨wsp_first _ (by rw [ov_length _ _ _ (by rw [hl]; omega)]; omega) (by rw [ov_get_off _ _ _ _ (by rw [hl]; omega) (by omega)]; exact h0), ?_⟩
  omega
/-- With another checksum it is not. -/
theorem ck_other (H : List Nat) (h20 : 12 ≤ H.length) (hc : ck H = 0) (v : Nat) (hv : v < 65536) (h : v % 65535 ≠ u2 H 10 % 65535) : ck (ov H (bg 2 v) 10) ≠ 0 := by
  have hl := bg_length 2 v
  have h1 := ov_wsp H (bg 2 v) 10 rfl (by rw [hl]; omega) (by rw [hl])
  rw [hl, wsp_two_at H 10 (by omega), wsp_bg _ hv] at h1
  rw [ck_zero] at hc
  intro e
  rw [ck_zero] at e
  omega
end Go.Proofs.Ytopfbgoiehlhbaa

/- ipfour.Dest. -/
namespace Go.Proofs.Ytopfbgoiehlhbaa
open Go.RowKit
/-- The packet with another destination. -/
def dst4 (zs t : List Nat) : List Nat := ov (ov zs (bg 2 (chA (u2 zs 10) ((zs.drop 16).take 4) t)) 10) t 16
end Go.Proofs.Ytopfbgoiehlhbaa

/- The packet with another destination: what stays, and that it can be taken. Nothing of the program. -/
namespace Go.Proofs.Ytopfbgoiehlhbaa
open Go.RowKit

section
variable {zs t : List Nat} (h : ff zs = 0) (ht : t.length = 4)
include h ht
theorem dst_facts : 20 ≤ zs.length ∧ 10 + (bg 2 (chA (u2 zs 10) ((zs.drop 16).take 4) t)).length ≤ zs.length ∧ 16 + t.length ≤ (ov zs (bg 2 (chA (u2 zs 10) ((zs.drop 16).take 4) t)) 10).length := by
  obtain ⟨h20, -⟩ := ff_yes zs h
  have hl : 10 + (bg 2 (chA (u2 zs 10) ((zs.drop 16).take 4) t)).length ≤ zs.length := by rw [bg_length]; omega
  exact ⟨h20, hl, by rw [ov_length _ _ _ hl]; omega⟩
theorem dst_length : (dst4 zs t).length = zs.length := by
  obtain ⟨_, h1, h2⟩ := dst_facts h ht
  unfold dst4
  rw [ov_length _ _ _ h2, ov_length _ _ _ h1]
theorem dst_get (i : Nat) (hi : i < 10 ∨ (12 ≤ i ∧ i < 16) ∨ 20 ≤ i) : (dst4 zs t).getD i 0 = zs.getD i 0 := by
  obtain ⟨_, h1, h2⟩ := dst_facts h ht
  unfold dst4
  rw [ov_get_off _ _ _ _ h2 (by omega), ov_get_off _ _ _ _ h1 (by rw [bg_length]; omega)]
theorem dst_take (n : Nat) (hn : n ≤ 10) : (dst4 zs t).take n = zs.take n := by
  obtain ⟨_, h1, h2⟩ := dst_facts h ht
  unfold dst4
  rw [ov_take_off _ _ _ _ (by omega) h2, ov_take_off _ _ _ _ hn h1]
theorem dst_drop (n : Nat) (hn : 20 ≤ n) : (dst4 zs t).drop n = zs.drop n := by
  obtain ⟨_, h1, h2⟩ := dst_facts h ht
  unfold dst4
  rw [ov_drop_off _ _ _ _ (by omega) h2, ov_drop_off _ _ _ _ (by rw [bg_length]; omega) h1]
theorem dst_src : ((dst4 zs t).drop 12).take 4 = (zs.drop 12).take 4 := by
  obtain ⟨_, h1, h2⟩ := dst_facts h ht
  unfold dst4
  rw [mid_off _ _ _ _ _ h2 (by omega), mid_off _ _ _ _ _ h1 (by rw [bg_length]; omega)]
theorem dst_dst : ((dst4 zs t).drop 16).take 4 = t := by
  obtain ⟨_, h1, h2⟩ := dst_facts h ht
  unfold dst4
  have := ov_mid (ov zs (bg 2 (chA (u2 zs 10) ((zs.drop 16).take 4) t)) 10) t 16 h2
  rwa [ht] at this
omit h ht in
theorem dst_lt (hb : ∀ c ∈ zs, c < 256) (htb : ∀ c ∈ t, c < 256) : ∀ c ∈ dst4 zs t, c < 256 := ov_lt _ _ _ (ov_lt _ _ _ hb (bg_lt _ _)) htb
/-- P5.3: what goes to another destination is read with no reason. -/
theorem dst_ff (hb : ∀ c ∈ zs, c < 256) : ff (dst4 zs t) = 0 := by
  obtain ⟨h20, hv, hs1, hs2, hs3, hc, hf, hp⟩ := ff_yes zs h
  have hs60 := hs_lt zs
  have g0 := dst_get h ht 0 (by omega)
  have g9 := dst_get h ht 9 (by omega)
  have e2 : u2 (dst4 zs t) 2 = u2 zs 2 := by unfold u2; rw [dst_get h ht 2 (by omega), dst_get h ht 3 (by omega)]
  have e6 : u2 (dst4 zs t) 6 = u2 zs 6 := by unfold u2; rw [dst_get h ht 6 (by omega), dst_get h ht 7 (by omega)]
  have es : hs (dst4 zs t) = hs zs := by unfold hs; rw [g0]
  have el := dst_length h ht
  have hck : ck ((dst4 zs t).take (hs zs)) = 0 := by
    obtain ⟨_, h1, h2⟩ := dst_facts h ht
    obtain ⟨s, hse⟩ : ∃ s, s = hs zs := ⟨_, rfl⟩
    have hse2 : s % 2 = 0 := by rw [hse]; unfold hs; omega
    rw [← hse] at hc hs1 ⊢
    have hsl : s ≤ zs.length := by omega
    have h2' := h2
    rw [ov_length _ _ _ h1] at h2'
    have et : (dst4 zs t).take s = ov (ov (zs.take s) (bg 2 (chA (u2 zs 10) ((zs.drop 16).take 4) t)) 10) t 16 := by
      unfold dst4
      rw [ov_take _ _ _ _ (by omega) (by rw [ov_length _ _ _ h1]; exact hsl), ov_take _ _ _ _ (by rw [bg_length]; omega) hsl]
    have zl : (zs.take s).length = s := by simp; omega
    have hV := chA_lt (u2 zs 10) ((zs.drop 16).take 4) t (u2_lt zs 10 hb)
    have ol : ((zs.drop 16).take 4).length = 4 := by simp; omega
    have w1 := ov_wsp (zs.take s) (bg 2 (chA (u2 zs 10) ((zs.drop 16).take 4) t)) 10 rfl (by rw [bg_length]; omega) (by rw [bg_length])
    rw [bg_length, wsp_two_at _ _ (by omega), u2_take _ _ _ (by omega), wsp_bg _ hV] at w1
    have w2 := ov_wsp (ov (zs.take s) (bg 2 (chA (u2 zs 10) ((zs.drop 16).take 4) t)) 10) t 16 rfl (by rw [ov_length _ _ _ (by rw [bg_length]; omega)]; omega) (by omega)
    have em : ((ov (zs.take s) (bg 2 (chA (u2 zs 10) ((zs.drop 16).take 4) t)) 10).drop 16).take t.length = (zs.drop 16).take 4 := by
      rw [ht, mid_off _ _ _ _ _ (by rw [bg_length]; omega) (by rw [bg_length]; omega), List.drop_take, List.take_take, Nat.min_eq_left (by omega)]
    rw [em] at w2
    have hm := chg_mod (u2 zs 10) ((zs.drop 16).take 4) t (by have := u2_lt zs 10 hb; omega) (fun c hc => hb c (List.mem_of_mem_drop (List.mem_of_mem_take hc))) 2 (by omega) (by omega)
    rw [List.take_of_length_le (l := t) (by omega), List.take_of_length_le (l := (zs.drop 16).take 4) (by omega), ← chA_yes (u2 zs 10) ((zs.drop 16).take 4) t 2 (by omega) (by omega)] at hm
    rw [ck_zero] at hc
    rw [et, ck_zero]
    refine ⟨wsp_first _ (by rw [ov_length _ _ _ (by rw [ov_length _ _ _ (by rw [bg_length]; omega)]; omega), ov_length _ _ _ (by rw [bg_length]; omega)]; omega) ?_, ?_⟩
    · rw [← et]
      have : ((dst4 zs t).take s).getD 0 0 = zs.getD 0 0 := by rw [← g0]; simp [List.getD_eq_getElem?_getD, show 0 < s by omega]
      rw [this]; omega
    · omega
  unfold ff
  rw [if_neg (by omega), g0, es, e2, if_neg (by omega), if_neg (by omega), hck, e6, g9, if_neg (by omega), if_neg (by omega), if_neg (by omega)]
end
end Go.Proofs.Ytopfbgoiehlhbaa

/- A header that was made, with data behind: it is read with no reason. Nothing of the program. -/
namespace Go.Proofs.Ytopfbgoiehlhbaa
open Go.RowKit
theorem list4 (s : List Nat) (h : s.length = 4) : ∃ a b c d, s = [a, b, c, d] := by
  match s, h with
  | [a, b, c, d], _ => exact ⟨a, b, c, d, rfl⟩
theorem mk4_lit (s0 s1 s2 s3 d0 d1 d2 d3 p n : Nat) : ∃ x y, mk4 [s0, s1, s2, s3] [d0, d1, d2, d3] p n = [69, 0, (20 + n) / 256 % 256, (20 + n) % 256, 0, 0, 64, 0, 64, p, x, y, s0, s1, s2, s3, d0, d1, d2, d3] :=
  ⟨ck (mk0 [s0, s1, s2, s3] [d0, d1, d2, d3] p n) / 256 % 256, ck (mk0 [s0, s1, s2, s3] [d0, d1, d2, d3] p n) % 256, rfl⟩
theorem mk4_ck (s d : List Nat) (hs : s.length = 4) (hd : d.length = 4) (p n : Nat) : ck (mk4 s d p n) = 0 := by
  have hl := mk0_length s d hs hd p n
  refine ck_put _ (by omega) ?_ ?_
  · show 0 < 69; omega
  · obtain ⟨s0, s1, s2, s3, rfl⟩ := list4 s hs
    simp [u2, mk0, bg]
set_option maxRecDepth 10000 in
set_option maxHeartbeats 200000 in
theorem mk_read (s d data : List Nat) (p n : Nat) (hs1 : s.length = 4) (hd1 : d.length = 4) (hn : data.length = n) (hn2 : n ≤ 65515) (hp : p = 6 ∨ p = 17) :
    ff (mk4 s d p n ++ data) = 0 ∧ hd (mk4 s d p n ++ data) = hcells 20 (20 + n) p (a4 s) (a4 d) ∧ ((mk4 s d p n ++ data).drop 16).take 4 = d ∧ hs (mk4 s d p n ++ data) = 20 ∧ u2 (mk4 s d p n ++ data) 2 = 20 + n ∧ (mk4 s d p n ++ data).getD 9 0 = p ∧ ((mk4 s d p n ++ data).drop 12).take 4 = s ∧ (mk4 s d p n ++ data).length = 20 + n := by
  have hck := mk4_ck s d hs1 hd1 p n
  obtain ⟨s0, s1, s2, s3, es⟩ := list4 s hs1
  obtain ⟨d0, d1, d2, d3, ed⟩ := list4 d hd1
  clear hs1 hd1
  subst es ed
  obtain ⟨x, y, e⟩ := mk4_lit s0 s1 s2 s3 d0 d1 d2 d3 p n
  rw [e] at hck ⊢
  obtain ⟨Z, hZ⟩ : ∃ Z, Z = [69, 0, (20 + n) / 256 % 256, (20 + n) % 256, 0, 0, 64, 0, 64, p, x, y, s0, s1, s2, s3, d0, d1, d2, d3] ++ data := ⟨_, rfl⟩
  have zl : Z.length = 20 + n := by rw [hZ, List.length_append, hn]; simp
  have g0 : Z.getD 0 0 = 69 := by rw [hZ]; simp
  have g9 : Z.getD 9 0 = p := by rw [hZ]; simp
  have e2 : u2 Z 2 = 20 + n := by
    have : u2 Z 2 = (20 + n) / 256 % 256 * 256 + (20 + n) % 256 := by rw [hZ]; simp [u2]
    omega
  have e6 : u2 Z 6 = 16384 := by rw [hZ]; simp [u2]
  have t20 : Z.take 20 = [69, 0, (20 + n) / 256 % 256, (20 + n) % 256, 0, 0, 64, 0, 64, p, x, y, s0, s1, s2, s3, d0, d1, d2, d3] := by rw [hZ]; simp
  have m12 : (Z.drop 12).take 4 = [s0, s1, s2, s3] := by rw [hZ]; simp
  have m16 : (Z.drop 16).take 4 = [d0, d1, d2, d3] := by rw [hZ]; simp
  have es : hs Z = 20 := by unfold hs; rw [g0]
  rw [← hZ]
  have hff : ff Z = 0 := by
    unfold ff
    rw [if_neg (by omega), g0, es, e2, if_neg (by omega), if_neg (by omega), t20, hck, e6, g9, if_neg (by omega), if_neg (by omega), if_neg (by omega)]
  refine ⟨hff, ?_, m16, es, e2, g9, m12, zl⟩
  unfold hd
  rw [if_pos hff, es, e2, g9, m12, m16]
theorem hd_dst (zs t : List Nat) (h : ff zs = 0) (ht : t.length = 4) (hb : ∀ c ∈ zs, c < 256) : hd (dst4 zs t) = hcells (hs zs) (u2 zs 2) (zs.getD 9 0) (a4 ((zs.drop 12).take 4)) (a4 t) := by
  have e0 := dst_get h ht 0 (by omega)
  have e2 : u2 (dst4 zs t) 2 = u2 zs 2 := by unfold u2; rw [dst_get h ht 2 (by omega), dst_get h ht 3 (by omega)]
  have es : hs (dst4 zs t) = hs zs := by unfold hs; rw [e0]
  unfold hd
  rw [if_pos (dst_ff h ht hb), es, e2, dst_get h ht 9 (by omega), dst_src h ht, dst_dst h ht]
/-- There and back. -/
theorem back_drop (zs t : List Nat) (h : ff zs = 0) (ht : t.length = 4) (hb : ∀ c ∈ zs, c < 256) (d : List Nat) (hd4 : d.length = 4) (hd : (zs.drop 16).take 4 = d) : (dst4 (dst4 zs t) d).drop 12 = zs.drop 12 := by
  have h2 := dst_ff h ht hb
  have parts : ∀ l : List Nat, l.drop 12 = (l.drop 12).take 4 ++ ((l.drop 16).take 4 ++ l.drop 20) := fun l => by
    have e1 : l.drop 16 = (l.drop 12).drop 4 := by rw [List.drop_drop]
    have e2 : l.drop 20 = (l.drop 16).drop 4 := by rw [List.drop_drop]
    rw [e2, List.take_append_drop, e1, List.take_append_drop]
  rw [parts (dst4 (dst4 zs t) d), parts zs, dst_src h2 hd4, dst_src h ht, dst_dst h2 hd4, dst_drop h2 hd4 20 (by omega), dst_drop h ht 20 (by omega), hd]
end Go.Proofs.Ytopfbgoiehlhbaa

/- A segment and a frame that were built: what is read of them. Nothing of the program. -/
namespace Go.Proofs.Ytopfbgoiehlhbaa
open Go.RowKit

theorem seg0_tcp (sp dp f : Nat) (data : List Nat) : seg0 6 sp dp f data = [sp / 256 % 256, sp % 256, dp / 256 % 256, dp % 256, 0, 0, 0, 0, 0, 0, 0, 0, 80, f, 0, 0, 0, 0, 0, 0] ++ data := by
  simp [seg0, midB, bg2]
theorem seg0_udp (sp dp f : Nat) (data : List Nat) : seg0 17 sp dp f data = [sp / 256 % 256, sp % 256, dp / 256 % 256, dp % 256, (8 + data.length) / 256 % 256, (8 + data.length) % 256, 0, 0] ++ data := by
  simp [seg0, midB, bg2]
/-- What a segment that was built is, but for its checksum. -/
theorem segB_get (p : Nat) (hp : p = 6 ∨ p = 17) (v : Bool) (S D : List Nat) (sp dp f : Nat) (data : List Nat) (bare : Bool) (i : Nat) (hi : i < sAt p ∨ sAt p + 2 ≤ i) :
    (segB p v S D sp dp f data bare).getD i 0 = (seg0 p sp dp f data).getD i 0 := by
  unfold segB
  split
  · rfl
  · refine ov_get_off _ _ _ _ ?_ (by rw [bg_length]; exact hi)
    rw [bg_length, seg0_len]
    rcases hp with rfl | rfl <;> simp [sAt, hsz] <;> omega
theorem segB_fs (p : Nat) (hp : p = 6 ∨ p = 17) (v : Bool) (S D : List Nat) (sp dp f : Nat) (data : List Nat) (bare : Bool) (hl : data.length ≤ 2000) : fs p (segB p v S D sp dp f data bare) = 0 := by
  have hlen := segB_len p hp v S D sp dp f data bare
  rcases hp with rfl | rfl
  · have h12 := segB_get 6 (.inl rfl) v S D sp dp f data bare 12 (.inl (by simp [sAt]))
    rw [seg0_tcp] at h12
    have h12 : (segB 6 v S D sp dp f data bare).getD 12 0 = 80 := h12
    refine fs_six _ ?_ ?_ ?_
    · rw [hlen]; simp [hsz]
    · unfold tz; rw [h12]; omega
    · unfold tz; rw [h12, hlen]; simp [hsz]
  · have h4 := segB_get 17 (.inr rfl) v S D sp dp f data bare 4 (.inl (by simp [sAt]))
    have h5 := segB_get 17 (.inr rfl) v S D sp dp f data bare 5 (.inl (by simp [sAt]))
    rw [seg0_udp] at h4 h5
    have e : u2 (segB 17 v S D sp dp f data bare) 4 = 8 + data.length := by
      unfold u2; rw [h4, h5]
      show (8 + data.length) / 256 % 256 * 256 + (8 + data.length) % 256 = _
      omega
    refine fs_udp _ ?_ ?_ ?_
    · rw [hlen]; simp [hsz]
    · rw [e]; omega
    · rw [e, hlen]; simp [hsz]
theorem segB_ports (p : Nat) (hp : p = 6 ∨ p = 17) (v : Bool) (S D : List Nat) (sp dp f : Nat) (data : List Nat) (bare : Bool) (h1 : sp < 65536) (h2 : dp < 65536) :
    u2 (segB p v S D sp dp f data bare) 0 = sp ∧ u2 (segB p v S D sp dp f data bare) 2 = dp ∧ fl p (segB p v S D sp dp f data bare) = if p = 6 then f else 0 := by
  have hs : 4 ≤ sAt p := by rcases hp with rfl | rfl <;> simp [sAt]
  have g0 := segB_get p hp v S D sp dp f data bare 0 (.inl (by omega))
  have g1 := segB_get p hp v S D sp dp f data bare 1 (.inl (by omega))
  have g2 := segB_get p hp v S D sp dp f data bare 2 (.inl (by omega))
  have g3 := segB_get p hp v S D sp dp f data bare 3 (.inl (by omega))
  rcases hp with rfl | rfl
  · have g13 := segB_get 6 (.inl rfl) v S D sp dp f data bare 13 (.inl (by simp [sAt]))
    rw [seg0_tcp] at g0 g1 g2 g3 g13
    refine ⟨?_, ?_, ?_⟩
    · unfold u2; rw [g0, g1]; show sp / 256 % 256 * 256 + sp % 256 = sp; omega
    · unfold u2; rw [g2, g3]; show dp / 256 % 256 * 256 + dp % 256 = dp; omega
    · unfold fl; rw [if_pos rfl, if_pos rfl, g13]; rfl
  · rw [seg0_udp] at g0 g1 g2 g3
    refine ⟨?_, ?_, ?_⟩
    · unfold u2; rw [g0, g1]; show sp / 256 % 256 * 256 + sp % 256 = sp; omega
    · unfold u2; rw [g2, g3]; show dp / 256 % 256 * 256 + dp % 256 = dp; omega
    · rfl
/-- How long all that is ahead of a segment is. -/
def aheadB (v : Bool) : Nat := if v then 54 else 34
theorem headB_len (v : Bool) (S D : List Nat) (p n : Nat) (hS : S.length = 16) (hD : D.length = 16) : (headB v S D p n).length = if v then 40 else 20 := by
  unfold headB
  cases v with
  | true => exact mk6_length S D hS hD p n
  | false =>
    show (mk4 (S.take 4) (D.take 4) p n).length = 20
    have := mk0_length (S.take 4) (D.take 4) (by simp [hS]) (by simp [hD]) p n
    unfold mk4
    rw [ov_length _ _ _ (by rw [bg_length]; omega)]
    exact this
theorem a4_take (S : List Nat) (hS : S.length = 16) (hv : vldA false S = true) : a4 (S.take 4) = cellsA false S := by
  have hv := (vldA_spec.1 hv).resolve_left (by simp)
  unfold a4
  congr 1
  refine ext_getD _ _ 0 (by simp [hS]) fun i hi => ?_
  have hi : i < 16 := by simp [hS] at hi; omega
  by_cases h4 : i < 4
  · rw [List.getD_eq_getElem?_getD, List.getElem?_append_left (by simp [hS]; omega), List.getElem?_take_of_lt h4, List.getD_eq_getElem?_getD]
  · rw [hv i (by omega) hi, List.getD_eq_getElem?_getD, List.getElem?_append_right (by simp [hS]; omega), List.getElem?_replicate]
    split <;> rfl
structure Told (v : Bool) (S D : List Nat) (p sp dp f : Nat) (data : List Nat) (bare : Bool) (F : List Nat) : Prop where
  len : F.length = aheadB v + (segB p v S D sp dp f data bare).length
  sg : F.drop (aheadB v) = segB p v S D sp dp f data bare
  rr : rr F = 0
  vw : vw F = vcells v 14 (aheadB v) (aheadB v + (segB p v S D sp dp f data bare).length) (kcells p (cellsA v S) (cellsA v D) sp dp) (if p = 6 then f else 0)
theorem told (v : Bool) (S D : List Nat) (p sp dp f : Nat) (data : List Nat) (bare : Bool) (hp : p = 6 ∨ p = 17) (hS : S.length = 16) (hD : D.length = 16) (hvS : vldA v S = true) (hvD : vldA v D = true)
    (hl : data.length ≤ 1500) (hsp : sp < 65536) (hdp : dp < 65536) : Told v S D p sp dp f data bare (frmB v S D p sp dp f data false bare 0) := by
  have hn := segB_len p hp v S D sp dp f data bare
  have hz : hsz p ≤ 20 := by unfold hsz; split <;> omega
  have h0 := segB_fs p hp v S D sp dp f data bare (by omega)
  obtain ⟨hu0, hu2, hfl⟩ := segB_ports p hp v S D sp dp f data bare hsp hdp
  have hF : frmB v S D p sp dp f data false bare 0 = ethB false v ++ (headB v S D p (hsz p + data.length) ++ segB p v S D sp dp f data bare) := by
    unfold frmB; simp
  rw [hF]
  have hsl : (segB p v S D sp dp f data bare).length = hsz p + data.length := hn
  generalize hSG : segB p v S D sp dp f data bare = SG at *
  have he : (ethB false v).length = 14 := by unfold ethB; cases v <;> rfl
  have hh := headB_len v S D p (hsz p + data.length) hS hD
  have hnet : net (ethB false v ++ (headB v S D p (hsz p + data.length) ++ SG)) = (14, (if v then 34525 else 2048), 0) := by
    have hk : u2 (ethB false v ++ (headB v S D p (hsz p + data.length) ++ SG)) 12 = if v then 34525 else 2048 := by unfold u2 ethB; cases v <;> simp
    rw [net_bare _ (by rw [List.length_append, he]; omega) (by rw [hk]; cases v <;> decide), hk]
    unfold netK
    cases v <;> rfl
  have hsix : sixF (ethB false v ++ (headB v S D p (hsz p + data.length) ++ SG)) = v := by unfold sixF; rw [hnet]; cases v <;> rfl
  have hpk : pkt (ethB false v ++ (headB v S D p (hsz p + data.length) ++ SG)) = headB v S D p (hsz p + data.length) ++ SG := by unfold pkt; rw [hnet]; exact drop_app _ _ 14 he
  have key : fhr v (headB v S D p (hsz p + data.length) ++ SG) = 0 ∧ fS v (headB v S D p (hsz p + data.length) ++ SG) = (if v then 40 else 20) ∧ fL v (headB v S D p (hsz p + data.length) ++ SG) = (if v then 40 else 20) + SG.length ∧
      fP v (headB v S D p (hsz p + data.length) ++ SG) = p ∧ fA v (headB v S D p (hsz p + data.length) ++ SG) = cellsA v S ∧ fB v (headB v S D p (hsz p + data.length) ++ SG) = cellsA v D := by
    cases v with
    | true =>
      have hf := mk6_f S D SG p (hsz p + data.length) hS hD (by omega) hp (by omega)
      refine ⟨hf, rfl, ?_, ?_, ?_, ?_⟩
      · show 40 + u2 (mk6 S D p (hsz p + data.length) ++ SG) 4 = _
        rw [mk6_u2 S D SG p _ (by omega), hsl]; rfl
      · show (mk6 S D p (hsz p + data.length) ++ SG).getD 6 0 = p
        rw [mk6_cons]; rfl
      · show srcA _ = _
        unfold srcA; rw [show headB true S D p (hsz p + data.length) = mk6 S D p (hsz p + data.length) from rfl, mk6_src S D SG p _ hS]
      · show dstA _ = _
        unfold dstA; rw [show headB true S D p (hsz p + data.length) = mk6 S D p (hsz p + data.length) from rfl, mk6_dst S D SG p _ hS hD]
    | false =>
      obtain ⟨q1, q2, q3, q4, q5, q6, q7, q8⟩ := mk_read (S.take 4) (D.take 4) SG p (hsz p + data.length) (by simp [hS]) (by simp [hD]) hsl (by omega) hp
      refine ⟨q1, q4, ?_, q6, ?_, ?_⟩
      · show u2 _ 2 = _
        rw [show headB false S D p (hsz p + data.length) = mk4 (S.take 4) (D.take 4) p (hsz p + data.length) from rfl, q5, hsl]; rfl
      · show a4 _ = _
        rw [show headB false S D p (hsz p + data.length) = mk4 (S.take 4) (D.take 4) p (hsz p + data.length) from rfl, q7]; exact a4_take S hS hvS
      · show a4 _ = _
        rw [show headB false S D p (hsz p + data.length) = mk4 (S.take 4) (D.take 4) p (hsz p + data.length) from rfl, q3]; exact a4_take D hD hvD
  obtain ⟨k1, k2, k3, k4, k5, k6⟩ := key
  have hah : aheadB v = 14 + (if v then 40 else 20) := by cases v <;> rfl
  have hd2 : (ethB false v ++ (headB v S D p (hsz p + data.length) ++ SG)).drop (aheadB v) = SG := by
    rw [← List.append_assoc]; exact drop_app _ _ _ (by rw [List.length_append, he, hh, hah])
  have hsg : sgm (ethB false v ++ (headB v S D p (hsz p + data.length) ++ SG)) = SG := by
    unfold sgm
    rw [hsix, hpk, hnet, k2, k3]
    show ((ethB false v ++ (headB v S D p (hsz p + data.length) ++ SG)).drop (14 + (if v then 40 else 20))).take _ = _
    rw [← hah, hd2, Nat.add_sub_cancel_left]
    exact List.take_length
  have hrr : rr (ethB false v ++ (headB v S D p (hsz p + data.length) ++ SG)) = 0 := by
    unfold rr
    rw [hsix, hpk, hnet, k1, k4, hsg, h0]; rfl
  refine ⟨by rw [hSG, List.length_append, List.length_append, he, hh, hah]; omega, hd2.trans hSG.symm, hrr, ?_⟩
  unfold vw keyF
  rw [if_pos hrr, hsix, hpk, hnet, k2, k3, k4, k5, k6, hsg, hu0, hu2, hfl, hSG, hah]
  rw [Nat.add_assoc]
end Go.Proofs.Ytopfbgoiehlhbaa

/- Rows of the call's own that stay; a key's cells; a segment's header, put together. -/
namespace Go.Proofs.Ytopfbgoiehlhbaa
open Go.RowKit

theorem own_keep {w w' : World} {base gs n cap B : Nat} {e : TypeId} {xs : List Value} (h : w.ownsRow base e 1 (.slice (some ⟨gs, 0, none⟩) n cap) n xs) (hb : Below B w w') (hg : gs < B) :
    w'.ownsRow base e 1 (.slice (some ⟨gs, 0, none⟩) n cap) n xs := by
  obtain ⟨h1, h2⟩ := h
  refine ⟨h1, ?_⟩
  rcases h2 with ⟨h2, -⟩ | ⟨k, cap', cur, hv, hh, h4, hn, hm, h5⟩
  · cases h2
  · cases hv
    exact .inr ⟨gs, cap, cur, rfl, hh, (hb.block gs hg).trans h4, hn, hm, h5⟩
theorem below_none {w w' : World} (h : w.grownBy w' none) : Below w.heap.size w w' := (Below.refl w.heap.size w).grown h (Nat.le_refl _) (fun k e => by cases e)
theorem kget (v : Bool) (sb db : List Nat) (hl1 : sb.length = 16) (hl2 : db.length = 16) (p sp dp : Nat) :
    (kcells p (cellsA v sb) (cellsA v db) sp dp)[0]? = some (.int .u8 (p : Int)) ∧ (kcells p (cellsA v sb) (cellsA v db) sp dp)[1]? = some (.bool v) ∧ (kcells p (cellsA v sb) (cellsA v db) sp dp)[18]? = some (.bool v) ∧
    (kcells p (cellsA v sb) (cellsA v db) sp dp)[35]? = some (.int .u16 (sp : Int)) ∧ (kcells p (cellsA v sb) (cellsA v db) sp dp)[36]? = some (.int .u16 (dp : Int)) := by
  obtain ⟨b0, b1, b2, b3, b4, b5, b6, b7, b8, b9, b10, b11, b12, b13, b14, b15, rfl⟩ := list16 sb hl1
  obtain ⟨d0, d1, d2, d3, d4, d5, d6, d7, d8, d9, d10, d11, d12, d13, d14, d15, rfl⟩ := list16 db hl2
  exact ⟨rfl, rfl, rfl, rfl, rfl⟩
theorem hdr_tcp (sp dp f m : Nat) (h1 : sp < 65536) (h2 : dp < 65536) :
    ((((((List.replicate 20 0).set 12 80).set 13 f).set 0 (sp / 256)).set (0 + 1) (sp % 256)).set 2 (dp / 256)).set (2 + 1) (dp % 256) = bg 2 sp ++ bg 2 dp ++ midB 6 f m := by
  have e1 : sp / 256 % 256 = sp / 256 := by omega
  have e2 : dp / 256 % 256 = dp / 256 := by omega
  simp [bg, midB, e1, e2, List.replicate]
theorem hdr_udp (sp dp f m : Nat) (h1 : sp < 65536) (h2 : dp < 65536) (h3 : 8 + m < 65536) :
    ((((((List.replicate 8 0).set 4 ((8 + m) / 256)).set (4 + 1) ((8 + m) % 256)).set 0 (sp / 256)).set (0 + 1) (sp % 256)).set 2 (dp / 256)).set (2 + 1) (dp % 256) = bg 2 sp ++ bg 2 dp ++ midB 17 f m := by
  have e1 : sp / 256 % 256 = sp / 256 := by omega
  have e2 : dp / 256 % 256 = dp / 256 := by omega
  have e3 : (8 + m) / 256 % 256 = (8 + m) / 256 := by omega
  simp [bg, midB, e1, e2, e3, List.replicate]
end Go.Proofs.Ytopfbgoiehlhbaa

/- append of so many zeros, a number that is told. -/
namespace Go.Proofs.Ytopfbgoiehlhbaa
open Go.RowKit

theorem run_app_none (w : World) (ty g n cap : Nat) (hc : n ≤ cap) : (Builtin.append_ #[22, 3] ty #[.slice (some ⟨g, 0, none⟩) n cap, .int .i64 ((0 : Nat) : Int)]).run Try.prog w = .ok (.slice (some ⟨g, 0, none⟩) n cap) w := by
  obtain ⟨i, hi, hz, -, hby⟩ := info_parts Try.info5
  have ht : Try.prog.underlying 22 = some (.slice 5) := Try.underlying22
  have htn : Try.prog.underlying 3 = some (.int .i64) := Try.underlying3
  have hw : IntKind.i64.wrap (0 : Int) = 0 := by decide
  simp [Builtin.append_, run_underlying ht, run_underlying htn, sizeOf, typeInfo, zeroValue, hi, hz, hby, asInt, asIntOf, hw, hc, storeCells]

theorem wpList_zerosN {w : World} {ops : Array Oper} {rest : List Oper} {o : Oper} {a : Act} {Q : Exit → Act → World → Prop} (hgd : o.guard = none) (s x : Operand) (k : Nat)
    (ho : o.op = .call { callee := .builtin .append, args := #[s, x], argTypes := #[22, 3] }) (hx : a.eval x = .int .i64 (k : Int))
    (base g n cap : Nat) (zs : List Nat) (hs : a.eval s = .slice (some ⟨g, 0, none⟩) n cap) (hown : w.ownsRow base 5 1 (.slice (some ⟨g, 0, none⟩) n cap) n (nus .u8 zs)) (hn : n + k ≤ 1000000) (hbase : base ≤ w.heap.size)
    (h : ∀ v' w', w'.ownsRow base 5 1 v' (n + k) (nus .u8 (zs ++ List.replicate k 0)) → w.grownBy w' (some g) → wpList Try.prog ops Q rest (a.put o.dst v') w') :
    wpList Try.prog ops Q (o :: rest) a w := by
  by_cases h0 : k = 0
  · subst h0
    exact Lib.wpList_append_run w hgd s _ 22 3 ho _ _ hs hx _ _ (run_app_none w o.type g n cap (by obtain ⟨-, ⟨h1, -⟩ | ⟨g', c', cur, hv, -, -, h2, -⟩⟩ := hown; cases h1; cases hv; exact h2)) (h _ _ (by simpa using hown) (World.grownBy.refl _ _))
  · obtain ⟨v', w', hr, h1, h2⟩ := run_app_zeros w o.type base g n cap k _ hown (by omega) hn hbase
    exact Lib.wpList_append_run w hgd s _ 22 3 ho _ _ hs hx v' w' hr (h v' w' (by simpa [nus] using h1) h2)
end Go.Proofs.Ytopfbgoiehlhbaa

/- ether.With: the bytes ahead, with another kind. -/
namespace Go.Proofs.Ytopfbgoiehlhbaa
open Go.RowKit

theorem net_at (zs : List Nat) (h : (net zs).2.2 = 0) : ∃ n, (net zs).1 = n + 2 ∧ n + 2 ≤ zs.length ∧ (n = 12 ∨ n = 16) ∧ u2 zs n = (net zs).2.1 := by
  unfold net netK at h ⊢
  split at h
  · simp at h
  · rename_i h14
    rw [if_neg h14]
    split at h
    · rename_i hv
      rw [if_pos hv]
      split at h
      · simp at h
      · rename_i h18
        rw [if_neg h18]
        split at h
        · rename_i hk
          rw [if_pos hk]
          exact ⟨16, rfl, by omega, .inr rfl, rfl⟩
        · simp at h
    · rename_i hv
      rw [if_neg hv]
      split at h
      · rename_i hk
        rw [if_pos hk]
        exact ⟨12, rfl, by omega, .inl rfl, rfl⟩
      · simp at h
theorem net_r (zs : List Nat) : (net zs).2.2 < 3 := by
  unfold net netK
  repeat' split
  all_goals simp
end Go.Proofs.Ytopfbgoiehlhbaa

/- bazaarref1.Net and bazaarref1.With: they tell the same. -/
namespace Go.Proofs.Ytopfbgoiehlhbaa
open Go.RowKit

set_option maxHeartbeats 800000 in
theorem rnet_any (v : Value) (zs : List Nat) (w : World) (hr : Rd w v (nus .u8 zs)) (hb : ∀ c ∈ zs, c < 256) :
    Calls Try.prog 22 #[v] w fun e w' => e = .returned (.tuple #[.int .i64 ((net zs).1 : Nat), .int .i64 ((net zs).2.1 : Nat), .int .i64 ((net zs).2.2 : Nat)]) ∧ Below w.heap.size w w' := by
  have HR := Lib.hid hr
  have HB := Lib.hid hb
  obtain ⟨a, cap, rfl, hlc, hl, -⟩ := hr
  rw [nus_length] at hlc HR ⊢
  have hk1 := u2_lt zs 12 hb
  have hk2 := u2_lt zs 16 hb
  clear hb
  have hlm : zs.length ≤ maxLen := Nat.le_trans hlc hl
  unfold maxLen at hlm
  clear hl hlc
  by_cases h14 : zs.length < 14
  · rw [net_short zs h14]
    go_enter Try.func22, Try.ntmps22
    go_wp2
    go_ret3
    exact ⟨rfl, Below.refl _ _⟩
  · by_cases hv : u2 zs 12 = 33024
    · by_cases h18 : zs.length < 18
      · rw [net_cut zs h14 hv h18]
        go_enter Try.func22, Try.ntmps22
        go_wp2_with fail
        refine (be16_any _ _ _ 12 zs _ HR.out HB.out (by omega)).mono ?_; rintro e w' ⟨rfl, n, rfl⟩
        rw [show zs.getD 12 0 * 256 + zs.getD (12 + 1) 0 = 33024 from hv]
        go_wp2
        go_ret3
        exact ⟨rfl, below_drewN (Below.refl _ _) _⟩
      · rw [net_tag zs h14 hv h18]
        obtain ⟨kd, hK⟩ : ∃ k, k = u2 zs 16 := ⟨_, rfl⟩
        rw [← hK] at hk2 ⊢
        have HK := Lib.hid (show zs.getD 16 0 * 256 + zs.getD (16 + 1) 0 = kd from hK.symm)
        clear hK
        go_enter Try.func22, Try.ntmps22
        go_wp2_with fail
        refine (be16_any _ _ _ 12 zs _ HR.out HB.out (by omega)).mono ?_; rintro e w' ⟨rfl, n, rfl⟩
        rw [show zs.getD 12 0 * 256 + zs.getD (12 + 1) 0 = 33024 from hv]
        go_wp2_with fail
        refine (be16_any _ _ _ 16 zs _ (HR.out.below (below_drewN (Below.refl _ _) _)) HB.out (by omega)).mono ?_; rintro e w' ⟨rfl, n, rfl⟩
        rw [HK.out]
        clear hv hk1
        by_cases h1 : kd = 2048
        · subst h1
          go_wp2
          go_ret3
          exact ⟨rfl, below_drewN (Below.refl _ _) _⟩
        · by_cases h2 : kd = 34525
          · subst h2
            go_wp2
            go_ret3
            exact ⟨rfl, below_drewN (Below.refl _ _) _⟩
          · have en := Lib.hid (netK_no 18 kd h1 h2)
            have g1 : ((kd : Int) != 2048) = true := by simp; omega
            have g2 : ((kd : Int) != 34525) = true := by simp; omega
            clear h1 h2
            go_wp2
            go_ret3
            exact ⟨by rw [en.out]; rfl, below_drewN (Below.refl _ _) _⟩
    · rw [net_bare zs h14 hv]
      obtain ⟨kd, hK⟩ : ∃ k, k = u2 zs 12 := ⟨_, rfl⟩
      rw [← hK] at hk1 hv ⊢
      have HK := Lib.hid (show zs.getD 12 0 * 256 + zs.getD (12 + 1) 0 = kd from hK.symm)
      clear hK
      go_enter Try.func22, Try.ntmps22
      go_wp2_with fail
      refine (be16_any _ _ _ 12 zs _ HR.out HB.out (by omega)).mono ?_; rintro e w' ⟨rfl, n, rfl⟩
      rw [HK.out]
      clear hk2
      have B2 := Lib.hid (below_drewN (Below.refl w.heap.size w) n)
      have g0 : ((kd : Int) == 33024) = false := by simp; omega
      clear hv
      by_cases h1 : kd = 2048
      · subst h1
        go_wp2
        go_ret3
        exact ⟨rfl, B2.out⟩
      · by_cases h2 : kd = 34525
        · subst h2
          go_wp2
          go_ret3
          exact ⟨rfl, B2.out⟩
        · have en := Lib.hid (netK_no 14 kd h1 h2)
          have g1 : ((kd : Int) != 2048) = true := by simp; omega
          have g2 : ((kd : Int) != 34525) = true := by simp; omega
          clear h1 h2
          go_wp2
          go_ret3
          exact ⟨by rw [en.out]; rfl, B2.out⟩

theorem set_two (zs : List Nat) (n k : Nat) (h : n + 2 ≤ zs.length) (hk : k < 65536) : ((zs.take (n + 2)).set n (k / 256)).set (n + 1) (k % 256) = zs.take n ++ bg 2 k := by
  have hl : (zs.take n).length = n := by simp; omega
  have hd : (zs.drop n).length = zs.length - n := by simp
  rw [List.take_add]
  cases h0 : zs.drop n with
  | nil => rw [h0] at hd; simp at hd; omega
  | cons a r =>
    cases r with
    | nil => rw [h0] at hd; simp at hd; omega
    | cons b r =>
      rw [List.set_append_right _ _ (by omega), List.set_append_right _ _ (by omega), hl, Nat.sub_self, Nat.add_sub_cancel_left]
      have e : k / 256 % 256 = k / 256 := by omega
      simp [bg, e]
/-- An empty row that is new. -/
theorem own_new (w0 w : World) (e : TypeId) (h : w0.heap.size ≤ w.heap.size) : (w.alloc (.cells #[] e)).ownsRow w0.heap.size e 1 (.slice (some ⟨w.heap.size, 0, none⟩) 0 0) 0 (nus .u8 []) :=
  own_of_heap (show (w.heap.push (.cells #[] e))[w.heap.size]? = _ by simp [nus]) h rfl (by simp [maxLen])
end Go.Proofs.Ytopfbgoiehlhbaa

/- append to a row of the call's own, where an operation alone is looked at. -/
namespace Go.Proofs.Ytopfbgoiehlhbaa
open Go.RowKit

theorem wp_app {w : World} {K : Act → World → Prop} {Q : Exit → Act → World → Prop} {o : Oper} {a : Act} (s x : Operand)
    (ho : o.op = .call { callee := .builtin .append, args := #[s, x], argTypes := #[22, 22] })
    (base : Nat) (v : Value) (n : Nat) (zs : List Nat) (hs : a.eval s = v) (hown : w.ownsRow base 5 1 v n (nus .u8 zs))
    (ao : Option Addr) (len cap : Nat) (bs : List Nat) (hx : a.eval x = .slice ao len cap) (hr : Rd w (.slice ao len cap) (nus .u8 bs)) (hn : ao = none → cap = 0) (hlen : n + len ≤ 1000000) (hbase : base ≤ w.heap.size)
    (h : ∀ v' w', w'.ownsRow base 5 1 v' (n + len) (nus .u8 (zs ++ bs)) → w.grownBy w' v.ownBlock → K (a.put o.dst v') w') :
    o.wp Try.prog a w K Q := by
  obtain ⟨i0, hi, hz0, hz1, hz2⟩ := info_parts Try.info5
  obtain ⟨a', cap', e, h1, h2, h3⟩ := hr
  simp only [Value.slice.injEq] at e
  obtain ⟨rfl, he, rfl⟩ := e
  rw [nus_length] at he h1 h3
  subst he
  cases ao with
  | none =>
    obtain rfl := hn rfl
    have hb : bs = [] := by cases bs with | nil => rfl | cons _ _ => simp at h1
    subst hb
    have hrun := run_append_owned_none (P := Try.prog) (w := w) base 22 o.type 5 i0 1 Try.underlying22 hi v n (nus .u8 zs) hown
    unfold Oper.wp
    simp [execOp, ho, resolve, invoke, builtin, hs, hx, hrun, Result.andThen]
    exact h v w (by simpa using hown) (World.grownBy.refl _ _)
  | some ad =>
    refine wp_append_own w s x 22 ho base 5 i0 (.int .u8 0) 1 1 Try.underlying22 hi hz0 hz1 hz2 rfl (by decide) v n (nus .u8 zs) hs hown ad bs.length cap (nus .u8 bs) hx (by rw [nus_length]; omega) ?_ (oneCell_nus _ _) (by unfold maxLen; omega) (by omega) hbase ?_
    · intro j u hj
      rcases h3 with h3 | ⟨b, off, e, hb, hcc⟩
      · rw [h3] at hj; simp at hj
      · cases e
        have hjl : j < (nus .u8 bs).length := (List.getElem?_eq_some_iff.1 hj).1
        rw [nus_length] at hjl
        rw [← hj]
        rw [Addr.add_lit]; exact hcc j hjl
    · intro v' w' hown' hgr _
      exact h v' w' (by rw [nus_append]; exact hown') hgr
end Go.Proofs.Ytopfbgoiehlhbaa

/- bazaarref1.SixDest. -/
namespace Go.Proofs.Ytopfbgoiehlhbaa
open Go.RowKit

theorem subP {w : World} {b off len cap : Nat} {k : IntKind} {bs : List Nat} (h : Rd w (.slice (some ⟨b, off, none⟩) len cap) (nus k bs)) (j m : Nat) (hc : j + m ≤ len) :
    Rd w (.slice (if cap = j then some ⟨b, off, none⟩ else some ⟨b, off + j, none⟩) m (cap - j)) (nus k ((bs.drop j).take m)) := by
  by_cases he : cap = j
  · rw [if_pos he]
    have h1 := h
    obtain ⟨a', cap', e, h1, h2, h3⟩ := h1
    simp only [Value.slice.injEq] at e
    obtain ⟨-, rfl, rfl⟩ := e
    have hm : m = 0 := by omega
    subst hm
    exact ⟨some ⟨b, off, none⟩, cap - j, by simp [nus], by simp [nus], by omega, .inl (by simp [nus])⟩
  · rw [if_neg he]; exact h.sub j m hc
end Go.Proofs.Ytopfbgoiehlhbaa

