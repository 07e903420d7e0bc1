/- Texts that the walks of this seat lean on, put together. -/
import Derived.Handy
import Derived.BigQuiet
import Derived.Deep.QuietTactic
import Derived.OwnWalk
import Derived.BigFrame
import Derived.Lib.AppendZeros
import Derived.Lib.AppendZerosOnto
import Derived.Laws.AppendOwnNone
import Derived.WalkKit
import Derived.LoopTactic
import Derived.WalkSpells
import Derived.WalkLawsBesides
import Derived.Lib.Hide
import Derived.Laws.BytesArg
import Derived.Test.YtnpibdjfafpegaaTk
import Derived.Test.YtnpibdjfafpegaaM02
import Derived.Test.YtnpibdjfafpegaaM03
import Derived.Test.YtnpibdjfafpegaaM04
import Derived.Test.YtnpibdjfafpegaaM05
import Derived.Test.YtnpibdjfafpegaaM07
import Derived.Test.YtnpibdjfafpegaaM09
import Derived.Test.YtnpibdjfafpegaaM10
import Derived.Test.YtnpibdjfafpegaaM11
import Derived.Test.YtnpibdjfafpegaaProg
namespace Go.Proofs.Ytnpibdjfafpegaa
open Go.RowKit
def bg : Nat → Nat → List Nat
  | 0, _ => []
  | n + 1, v => bg n (v / 256) ++ [v % 256]
theorem bg_length : ∀ n v, (bg n v).length = n
  | 0, _ => rfl
  | n + 1, v => by simp [bg, bg_length n]
theorem bg_lt : ∀ n v, ∀ c ∈ bg n v, c < 256
  | 0, _, c, h => by simp [bg] at h
  | n + 1, v, c, h => by
    simp only [bg, List.mem_append, List.mem_singleton] at h
    rcases h with h | rfl
    · exact bg_lt n _ c h
    · omega
theorem bg_cons : ∀ j v, bg (j + 1) v = (v / 256 ^ j % 256) :: bg j v
  | 0, v => by simp [bg]
  | j + 1, v => by
    rw [bg, bg_cons j (v / 256), bg]
    simp only [List.cons_append, Nat.div_div_eq_div_mul]
    rw [Nat.pow_succ, Nat.mul_comm 256]
def putRow (zs : List Nat) (k n v j : Nat) : List Nat := zs.take (k + n - j) ++ (bg j v ++ zs.drop (k + n))
theorem putRow_length (zs : List Nat) (k n v j : Nat) (h : k + n ≤ zs.length) (hj : j ≤ n) : (putRow zs k n v j).length = zs.length := by
  simp [putRow, bg_length]; omega
theorem putRow_zero (zs : List Nat) (k n v : Nat) : putRow zs k n v 0 = zs := by simp [putRow, bg]
theorem putRow_step (zs : List Nat) (k n v j : Nat) (h : k + n ≤ zs.length) (hj : j < n) : (putRow zs k n v j).set (k + n - 1 - j) (v / 256 ^ j % 256) = putRow zs k n v (j + 1) := by
  unfold putRow
  rw [bg_cons]
  rw [show k + n - j = (k + n - (j + 1)) + 1 from by omega, List.take_succ_eq_append_getElem (by omega), show k + n - 1 - j = k + n - (j + 1) from by omega]
  rw [List.append_assoc, List.set_append_right _ _ (by simp; omega)]
  simp
  rw [show k + n - (j + 1) - min (k + n - (j + 1)) zs.length = 0 from by omega]
  rfl
theorem nus_set (k : IntKind) (zs : List Nat) (i n : Nat) : (nus k zs).set i (.int k (n : Int)) = nus k (zs.set i n) := by simp [nus, List.map_set]
theorem grownBy_trans {a b c : World} {r : Option Nat} (h : a.grownBy b r) (g : b.grownBy c r) : a.grownBy c r :=
  ⟨g.os.trans h.os, g.tape.trans h.tape, g.output.trans h.output, Nat.le_trans h.size g.size, fun k hk hr => (g.block k (Nat.lt_of_lt_of_le hk h.size) hr).trans (h.block k hk hr)⟩
theorem putRow_app (zs : List Nat) (n v len : Nat) (h : len = zs.length) : putRow (zs ++ List.replicate n 0) len n v n = zs ++ bg n v := by
  subst h
  simp [putRow]
end Go.Proofs.Ytnpibdjfafpegaa
namespace Go.Proofs.Ytnpibdjfafpegaa
open Go.RowKit
def ov (B T : List Nat) (k : Nat) : List Nat := B.take k ++ (T ++ B.drop (k + T.length))
theorem ov_length (B T : List Nat) (k : Nat) (h : k + T.length ≤ B.length) : (ov B T k).length = B.length := by simp [ov]; omega
theorem ov_lt (B T : List Nat) (k : Nat) (hB : ∀ c ∈ B, c < 256) (hT : ∀ c ∈ T, c < 256) : ∀ c ∈ ov B T k, c < 256 := by
  intro c hc
  rcases List.mem_append.1 hc with h | h
  · exact hB c (List.mem_of_mem_take h)
  · rcases List.mem_append.1 h with h | h
    · exact hT c h
    · exact hB c (List.mem_of_mem_drop h)
theorem put_ov (zs : List Nat) (k v : Nat) : putRow zs k 2 v 2 = ov zs (bg 2 v) k := by
  unfold putRow ov
  rw [bg_length, Nat.add_sub_cancel]
theorem ov_get (B T : List Nat) (k i : Nat) (h : k + T.length ≤ B.length) : (ov B T k).getD i 0 = if k ≤ i ∧ i < k + T.length then T.getD (i - k) 0 else B.getD i 0 := by
  have hl : (B.take k).length = k := by simp; omega
  unfold ov
  simp only [List.getD_eq_getElem?_getD]
  by_cases h1 : i < k
  · rw [if_neg (by omega), List.getElem?_append_left (by omega), List.getElem?_take_of_lt h1]
  · rw [List.getElem?_append_right (by omega), hl]
    by_cases h2 : i < k + T.length
    · rw [if_pos (by omega), List.getElem?_append_left (by omega)]
    · rw [if_neg (by omega), List.getElem?_append_right (by omega), List.getElem?_drop]
      congr 2; omega
theorem ov_get_off (B T : List Nat) (k i : Nat) (h : k + T.length ≤ B.length) (hi : i < k ∨ k + T.length ≤ i) : (ov B T k).getD i 0 = B.getD i 0 := by
  rw [ov_get B T k i h, if_neg (by omega)]
theorem ov_wsp (B T : List Nat) (k : Nat) (hk : k % 2 = 0) (h : k + T.length ≤ B.length) (hT : T.length % 2 = 0) :
    wsp 0 (ov B T k) + wsp 0 ((B.drop k).take T.length) = wsp 0 B + wsp 0 T := by
  have hl : (B.take k).length = k := by simp; omega
  have hl2 : ((B.drop k).take T.length).length = T.length := by simp; omega
  have hB : B = B.take k ++ ((B.drop k).take T.length ++ B.drop (k + T.length)) := by rw [← List.drop_drop, List.take_append_drop, List.take_append_drop]
  have h4 : wsp 0 B = wsp 0 (B.take k) + (wsp 0 ((B.drop k).take T.length) + wsp 0 (B.drop (k + T.length))) := by
    conv => lhs; rw [hB]
    rw [wsp_append, wsp_append, hl, hl2, wsp_eq _ (0 + k) 0 (by omega), wsp_eq _ (0 + k + T.length) 0 (by omega)]
  rw [h4]
  unfold ov
  rw [wsp_append, wsp_append, hl, wsp_eq T (0 + k) 0 (by omega), wsp_eq _ (0 + k + T.length) 0 (by omega)]
  omega
theorem wsp_bg (v : Nat) (h : v < 65536) : wsp 0 (bg 2 v) = v := by
  simp only [bg, wsp, List.nil_append, List.cons_append, Nat.zero_add]
  rw [wt_even 0 rfl, wt_odd 1 rfl]
  omega
theorem wsp_two_at (B : List Nat) (k : Nat) (h : k + 2 ≤ B.length) : wsp 0 ((B.drop k).take 2) = u2 B k := by
  have e : (B.drop k).take 2 = [B.getD k 0, B.getD (k + 1) 0] := by
    refine ext_getD _ _ 0 (by simp; omega) fun i hi => ?_
    have hi2 : i = 0 ∨ i = 1 := by simp at hi; omega
    rcases hi2 with rfl | rfl <;> simp [List.getD_eq_getElem?_getD]
  rw [e]
  simp only [wsp]
  rw [wt_even 0 rfl, wt_odd (0 + 1) rfl]
  unfold u2; omega
end Go.Proofs.Ytnpibdjfafpegaa
namespace Go.Proofs.Ytnpibdjfafpegaa
open Go.RowKit
theorem splice_nus (k : IntKind) (zs ts : List Nat) (off : Nat) : splice (nus k zs) off (nus k ts) = nus k (ov zs ts off) := by
  unfold splice ov
  rw [nus_length]
  simp [nus, List.map_take, List.map_drop]
theorem splice_take (cur cs : List Value) (off n : Nat) (h : off + cs.length ≤ n) (hn : n ≤ cur.length) : (splice cur off cs).take n = splice (cur.take n) off cs := by
  have hl : (cur.take off).length = off := by simp; omega
  unfold splice
  rw [List.take_append, List.take_append, List.take_take, List.take_take, Nat.min_comm n off, List.drop_take]
  rw [hl, List.take_of_length_le (l := cs) (by omega), show n - off - cs.length = n - (off + cs.length) from by omega]
theorem copy_into {P : Program} {w : World} {ops : Array Oper} {rest : List Oper} {o : Oper} {a : Act} {Q : Exit → Act → World → Prop} (hgd : o.guard = none) (d s : Operand) (dT sT : TypeId)
    (ho : o.op = .call { callee := .builtin .copy, args := #[d, s], argTypes := #[dT, sT] }) (elem : TypeId) (hu : P.underlying dT = some (.slice elem)) (hsz : (P.info? elem).map (·.size) = some 1)
    (g off n cap base dLen dCap : Nat) (e : TypeId) (k : IntKind) (zs ts : List Nat) (sp : Option Addr) (sLen sCap : Nat) (hd : a.eval d = .slice (some ⟨g, off, none⟩) dLen dCap) (hs : a.eval s = .slice sp sLen sCap)
    (hown : w.ownsRow base e 1 (.slice (some ⟨g, 0, none⟩) n cap) n (nus k zs)) (hr : Rd w (.slice sp sLen sCap) (nus k ts)) (hfit : off + sLen ≤ n) (hdl : sLen ≤ dLen)
    (h : ∀ w', Hid (w'.ownsRow base e 1 (.slice (some ⟨g, 0, none⟩) n cap) n (nus k (ov zs ts off))) → w.grownBy w' (some g) → wpList P ops Q rest (a.put o.dst (goInt sLen)) w') :
    wpList P ops Q (o :: rest) a w := by
  have hr0 := hr
  obtain ⟨a', c', ee, h1, h2, h3⟩ := hr0
  simp only [Value.slice.injEq, nus_length] at ee
  obtain ⟨rfl, rfl, rfl⟩ := ee
  obtain ⟨hxl, ⟨h0, -⟩ | ⟨g', cap', cur, hv, hb, hh, hnc, hcm, hcs, ht⟩⟩ := hown
  · cases h0
  simp only [Value.slice.injEq, Option.some.injEq, Addr.mk.injEq, and_true, true_and] at hv
  obtain ⟨rfl, rfl⟩ := hv
  simp only [Nat.mul_one] at hxl hcs ht
  have hcl : cur.toList.length = cap := by simpa using hcs
  refine copy_grown hgd d s dT sT ho elem hu hsz _ sp dLen dCap ts.length sCap hd hs g off cur.toList e (by simpa using hh) (nus k ts) (by rw [nus_length]; exact (Nat.min_eq_left hdl).symm) ?_ (by rw [nus_length, hcl]; omega) (oneCell_nus _ _) ?_
  · intro h0
    obtain ⟨ad, he, hc⟩ := hr.src h0
    exact ⟨rfl, ad, he, hc⟩
  · intro w' hg hgr
    have hgo : goInt (nus k ts).length = goInt ts.length := by rw [nus_length]
    rw [hgo]
    refine h w' ⟨?_, .inr ⟨g, cap, (splice cur.toList off (nus k ts)).toArray, rfl, hb, hg.out, hnc, hcm, ?_, ?_⟩⟩ hgr
    · rw [nus_length] at hxl ⊢
      rw [ov_length _ _ _ (by omega), hxl, Nat.mul_one]
    · rw [Nat.mul_one, List.size_toArray]
      unfold splice
      simp only [List.length_append, List.length_take, List.length_drop, nus_length, hcl]
      omega
    · rw [Nat.mul_one, splice_take _ _ _ _ (by rw [nus_length]; exact hfit) (by omega), ht, splice_nus]
end Go.Proofs.Ytnpibdjfafpegaa
namespace Go.Proofs.Ytnpibdjfafpegaa
open Go.RowKit
theorem wp_copy_into {P : Program} {w : World} {K : Act → World → Prop} {Q : Exit → Act → World → Prop} {o : Oper} {a : Act} (d s : Operand) (dT sT : TypeId)
    (ho : o.op = .call { callee := .builtin .copy, args := #[d, s], argTypes := #[dT, sT] }) (elem : TypeId) (hu : P.underlying dT = some (.slice elem)) (hsz : (P.info? elem).map (·.size) = some 1)
    (g off n cap base dLen dCap : Nat) (e : TypeId) (k : IntKind) (zs ts : List Nat) (sp : Option Addr) (sLen sCap : Nat) (hd : a.eval d = .slice (some ⟨g, off, none⟩) dLen dCap) (hs : a.eval s = .slice sp sLen sCap)
    (hown : w.ownsRow base e 1 (.slice (some ⟨g, 0, none⟩) n cap) n (nus k zs)) (hr : Rd w (.slice sp sLen sCap) (nus k ts)) (hfit : off + sLen ≤ n) (hdl : sLen ≤ dLen) (h0 : 0 < sLen)
    (h : ∀ w', Hid (w'.ownsRow base e 1 (.slice (some ⟨g, 0, none⟩) n cap) n (nus k (ov zs ts off))) → w.grownBy w' (some g) → K (a.put o.dst (goInt sLen)) w') :
    o.wp P a w K Q := by
  have hr0 := hr
  obtain ⟨a', c', ee, h1, h2, h3⟩ := hr0
  simp only [Value.slice.injEq, nus_length] at ee
  obtain ⟨rfl, rfl, rfl⟩ := ee
  obtain ⟨hxl, ⟨h0', -⟩ | ⟨g', cap', cur, hv, hb, hh, hnc, hcm, hcs, ht⟩⟩ := hown
  · cases h0'
  simp only [Value.slice.injEq, Option.some.injEq, Addr.mk.injEq, and_true, true_and] at hv
  obtain ⟨rfl, rfl⟩ := hv
  simp only [Nat.mul_one] at hxl hcs ht
  have hcl : cur.toList.length = cap := by simpa using hcs
  obtain ⟨ad, rfl, hc⟩ := hr.src (by rw [nus_length]; exact h0)
  have hrun := run_copy_row (P := P) w dT sT o.type elem g off dLen dCap ad ts.length sCap cur e (nus k ts) hu hsz hh (by rw [nus_length]; exact (Nat.min_eq_left hdl).symm) hc (by rw [nus_length, hcs]; omega) (oneCell_nus _ _)
  unfold Oper.wp
  simp [execOp, ho, resolve, invoke, builtin, hd, hs, hrun, Result.andThen]
  rw [nus_length]
  refine h _ ⟨?_, .inr ⟨g, cap, (splice cur.toList off (nus k ts)).toArray, rfl, hb, ?_, hnc, hcm, ?_, ?_⟩⟩ ⟨rfl, rfl, rfl, by simp [World.setRow], fun k _ hk => setRow_other w g k _ (fun e => hk (by rw [e]))⟩
  · rw [nus_length] at hxl ⊢
    rw [ov_length _ _ _ (by omega), hxl, Nat.mul_one]
  · simpa [splice, nus_length] using setRow_heap w g _ _ e _ hh
  · rw [Nat.mul_one, List.size_toArray]
    unfold splice
    simp only [List.length_append, List.length_take, List.length_drop, nus_length, hcl]
    omega
  · rw [Nat.mul_one, splice_take _ _ _ _ (by rw [nus_length]; exact hfit) (by omega), ht, splice_nus]
end Go.Proofs.Ytnpibdjfafpegaa
namespace Go.Proofs.Ytnpibdjfafpegaa
open Go.RowKit
set_option maxHeartbeats 400000 in
theorem put16_yes (g n cap base : Nat) (k v : Nat) (zs : List Nat) (w : World) (hown : w.ownsRow base 5 1 (.slice (some ⟨g, 0, none⟩) n cap) n (nus .u8 zs)) (hn : n ≤ maxLen) (hk : k + 2 ≤ n) (hv : v < 65536) :
    Calls Try.prog 55 #[.slice (some ⟨g, 0, none⟩) n cap, .int .i64 k, .int .u16 v] w fun e w' => e = .returned (.bool true) ∧ w'.ownsRow base 5 1 (.slice (some ⟨g, 0, none⟩) n cap) n (nus .u8 (putRow zs k 2 v 2)) ∧ w.grownBy w' (some g) := by
  have hzl : zs.length = n := by have := hown.1; simpa [nus_length] using this
  unfold maxLen at hn
  have hfit : decide ((k : Int) ≤ (n : Int) - 2) = true := by simp; omega
  have HO := Lib.hid hown
  have HZ := Lib.hid hzl
  clear hown hzl
  go_enter Try.func55, Try.ntmps55
  go_wp2_with (first
    | (go_at_call 58; refine (fits16_pos _ _ _ _ _ (by unfold maxLen; omega) (by omega)).mono ?_; rintro e w' ⟨rfl, rfl⟩; rw [hfit])
    | (go_at_call 54; refine (size16_any _).mono ?_; rintro e w' ⟨rfl, rfl⟩))
  go_loopw [7, 8] (fun r i wr => ∃ j : Nat, j ≤ 2 ∧ r = .int .u64 ((v / 256 ^ j : Nat) : Int) ∧ i = .int .i64 ((k : Int) + 2 - 1 - j) ∧ wr.ownsRow base 5 1 (.slice (some ⟨g, 0, none⟩) n cap) n (nus .u8 (putRow zs k 2 v j)) ∧ w.grownBy wr (some g)) (fun _ i _ => (intOf i + 1 - k).toNat)
  case atStart => exact ⟨0, by omega, by simp, by simp, by rw [putRow_zero]; exact HO.out, World.grownBy.refl _ _⟩
  case round =>
    obtain ⟨j, hj, rfl, rfl, hown, hgr⟩ := hrel
    by_cases h1 : j < 2
    · obtain ⟨r, hr⟩ : ∃ r, r = v / 256 ^ j := ⟨_, rfl⟩
      obtain ⟨p, hp⟩ : ∃ p : Nat, (k : Int) + 2 - 1 - j = p := ⟨k + 2 - 1 - j, by omega⟩
      have hpk : k ≤ p ∧ p < k + 2 := by omega
      have hrv : r < 18446744073709551616 := by have := Nat.div_le_self v (256 ^ j); omega
      have hcell := hown.cellAt p (by omega)
      rw [nus_get _ _ _ (by rw [putRow_length _ _ _ _ _ (by rw [HZ.out]; exact hk) hj, HZ.out]; omega)] at hcell
      have hfz := hown.frozenAt p
      have hst := hown.stored p (.int .u8 ((r % 256 : Nat) : Int))
      have hstep := putRow_step zs k 2 v j (by rw [HZ.out]; exact hk) h1
      rw [← hr, show k + 2 - 1 - j = p from by omega] at hstep
      rw [nus_set, hstep] at hst
      have hr2 : r / 256 = v / 256 ^ (j + 1) := by rw [hr, Nat.div_div_eq_div_mul, Nat.pow_succ]
      rw [← hr, hp]
      obtain ⟨x, hx⟩ : ∃ x, x = (putRow zs k 2 v j).getD p 0 := ⟨_, rfl⟩
      rw [← hx] at hcell
      have HS := Lib.hid hst
      have HP := Lib.hid hp
      have HR := Lib.hid hr2
      clear hown hst hstep hp hr hr2 hx
      go_wp2
      go_roundw
      case rel => exact ⟨j + 1, by omega, by rw [← HR.out]; go_num, by have := HP.out; go_num, HS.out.1, grownBy_trans hgr HS.out.2⟩
      case measure => have := HP.out; simp [intOf]; omega
    · obtain rfl : j = 2 := by omega
      go_wp2
      go_ret
      exact ⟨rfl, hown, hgr⟩
end Go.Proofs.Ytnpibdjfafpegaa
namespace Go.Proofs.Ytnpibdjfafpegaa
open Go.RowKit
def netK (at0 kind : Nat) : Nat × Nat × Nat := if kind = 2048 ∨ kind = 34525 then (at0, kind, 0) else (0, 0, 2)
def net (zs : List Nat) : Nat × Nat × Nat :=
  if zs.length < 14 then (0, 0, 1)
  else if u2 zs 12 = 33024 then (if zs.length < 18 then (0, 0, 1) else netK 18 (u2 zs 16))
  else netK 14 (u2 zs 12)
theorem net_short (zs : List Nat) (h : zs.length < 14) : net zs = (0, 0, 1) := by simp [net, h]
theorem net_cut (zs : List Nat) (h : ¬ zs.length < 14) (hv : u2 zs 12 = 33024) (h18 : zs.length < 18) : net zs = (0, 0, 1) := by simp [net, h, h18, hv]
theorem net_tag (zs : List Nat) (h : ¬ zs.length < 14) (hv : u2 zs 12 = 33024) (h18 : ¬ zs.length < 18) : net zs = netK 18 (u2 zs 16) := by simp [net, h, h18, hv]
theorem net_bare (zs : List Nat) (h : ¬ zs.length < 14) (hv : u2 zs 12 ≠ 33024) : net zs = netK 14 (u2 zs 12) := by simp [net, h, hv]
theorem netK_no (n k : Nat) (h1 : k ≠ 2048) (h2 : k ≠ 34525) : netK n k = (0, 0, 2) := by simp [netK, h1, h2]
end Go.Proofs.Ytnpibdjfafpegaa
namespace Go.Proofs.Ytnpibdjfafpegaa
open Go.RowKit
def tz (zs : List Nat) : Nat := 4 * (zs.getD 12 0 / 16)
def fs (p : Nat) (zs : List Nat) : Nat :=
  if p = 6 then (if zs.length < 20 then 1 else if tz zs < 20 ∨ zs.length < tz zs then 3 else 0)
  else if p = 17 then (if zs.length < 8 then 1 else if u2 zs 4 < 8 ∨ zs.length < u2 zs 4 then 3 else 0)
  else 6
theorem fs_yes (p : Nat) (zs : List Nat) (h : fs p zs = 0) : (p = 6 ∧ 20 ≤ zs.length ∧ 20 ≤ tz zs ∧ tz zs ≤ zs.length) ∨ (p = 17 ∧ 8 ≤ zs.length ∧ 8 ≤ u2 zs 4 ∧ u2 zs 4 ≤ zs.length) := by
  unfold fs at h
  by_cases h6 : p = 6
  · rw [if_pos h6] at h
    by_cases h1 : zs.length < 20
    · rw [if_pos h1] at h; omega
    · rw [if_neg h1] at h
      by_cases h2 : tz zs < 20 ∨ zs.length < tz zs
      · rw [if_pos h2] at h; omega
      · exact .inl ⟨h6, by omega, by omega, by omega⟩
  · rw [if_neg h6] at h
    by_cases h17 : p = 17
    · rw [if_pos h17] at h
      by_cases h1 : zs.length < 8
      · rw [if_pos h1] at h; omega
      · rw [if_neg h1] at h
        by_cases h2 : u2 zs 4 < 8 ∨ zs.length < u2 zs 4
        · rw [if_pos h2] at h; omega
        · exact .inr ⟨h17, by omega, by omega, by omega⟩
    · rw [if_neg h17] at h; omega
theorem fs_six (zs : List Nat) (h : 20 ≤ zs.length) (h2 : 20 ≤ tz zs) (h3 : tz zs ≤ zs.length) : fs 6 zs = 0 := by
  unfold fs; rw [if_pos rfl, if_neg (by omega), if_neg (by omega)]
theorem fs_udp (zs : List Nat) (h : 8 ≤ zs.length) (h2 : 8 ≤ u2 zs 4) (h3 : u2 zs 4 ≤ zs.length) : fs 17 zs = 0 := by
  unfold fs; rw [if_neg (by omega), if_pos rfl, if_neg (by omega), if_neg (by omega)]
def fl (p : Nat) (zs : List Nat) : Nat := if p = 6 then zs.getD 13 0 else 0
def hs7 (p : Nat) (zs : List Nat) : Array Value := if fs p zs = 0 then #[.int .u16 (u2 zs 0 : Nat), .int .u16 (u2 zs 2 : Nat), .int .u8 (fl p zs : Nat)] else #[.int .u16 0, .int .u16 0, .int .u8 0]
def rs7 (p : Nat) (zs : List Nat) : Array Value := if fs p zs = 0 then #[.int .i64 (u2 zs 0 : Nat), .int .i64 (u2 zs 2 : Nat), .int .u8 (fl p zs : Nat)] else #[.int .i64 0, .int .i64 0, .int .u8 0]
theorem hs7_size (p : Nat) (zs : List Nat) : (hs7 p zs).size = 3 := by unfold hs7; split <;> rfl
theorem hs7_all (p : Nat) (zs : List Nat) : (hs7 p zs).all (·.oneCell') = true := by unfold hs7; split <;> simp [Value.oneCell']
theorem heads (p : Nat) (zs : List Nat) (hb : ∀ c ∈ zs, c < 256) : ∃ a b c : Nat, a < 65536 ∧ b < 65536 ∧ c < 256 ∧ hs7 p zs = #[.int .u16 (a : Int), .int .u16 (b : Int), .int .u8 (c : Int)] ∧ rs7 p zs = #[.int .i64 (a : Int), .int .i64 (b : Int), .int .u8 (c : Int)] := by
  unfold hs7 rs7
  split
  · refine ⟨_, _, _, u2_lt zs 0 hb, u2_lt zs 2 hb, ?_, rfl, rfl⟩
    unfold fl; split
    · exact getD_lt zs hb 13
    · omega
  · exact ⟨0, 0, 0, by omega, by omega, by omega, rfl, rfl⟩
def sAt (p : Nat) : Nat := if p = 17 then 6 else 16
def wo (p : Nat) (zs : List Nat) : Bool := decide (p = 17 ∧ u2 zs 6 = 0)
end Go.Proofs.Ytnpibdjfafpegaa
namespace Go.Proofs.Ytnpibdjfafpegaa
open Go.RowKit
theorem Blk.thereAt {w : World} {g : Nat} {t : TypeId} {cs : Array Value} (h : Blk w g t cs) {o n : Nat} (hn : o + n ≤ cs.size) : w.there g o n := fun j hj => by
  rw [h.cell (o + j), h.frozen (o + j)]
  simp
  omega
theorem wpList_part_store {P : Program} {w : World} {g : Nat} {t : TypeId} {cs : Array Value} {ops : Array Oper} {rest : List Oper} {op : Oper} {a : Act} {Q : Exit → Act → World → Prop} (hgd : op.guard = none) (ty : TypeId) (x y : Operand) (ho : op.op = .store ty x y)
    (off : Nat) (vs : Array Value) (hx : a.eval x = .pointer (some ⟨g, off, none⟩)) (hy : a.eval y = .agg vs) (hc : Blk w g t cs) (hs : off + vs.size ≤ cs.size)
    (hi : (P.info? ty).map (·.size) = some vs.size) (h1 : vs.all (·.oneCell') = true)
    (h : ∀ w', Blk w' g t (setL cs off vs.toList) → (∀ k, k ≠ g → w'.heap[k]? = w.heap[k]?) → (∀ B, B ≤ g → Below B w w') → wpList P ops Q rest (a.put op.dst undef) w') : wpList P ops Q (op :: rest) a w :=
  wpList_store_mid hgd ty x y ho g off vs hx hy (hc.thereAt hs) hi h1
    (h _ (Blk.setCells vs.toList off w cs hc) (fun k hk => setCells_far k hk _ _ _) (fun _ hB => setCells_below hB _ _ _ (Below.refl _ _)))
end Go.Proofs.Ytnpibdjfafpegaa
namespace Go.Proofs.Ytnpibdjfafpegaa
open Go.RowKit
theorem exec_field {P : Program} {w : World} {o : Oper} {a : Act} (t : TypeId) (x : Operand) (k : Nat) (ho : o.op = .field t x k) (v u : Value) (hx : a.eval x = v) (hf : (Instr.field t v k).run P w = .ok u w) : (execOp a.eval o).run P w = .ok (.value u) w := by
  unfold execOp
  simp only [ho, hx, Sem.run_bind, hf, Result.andThen_ok, Sem.run_pure]
theorem wpList_field_want {P : Program} {ops : Array Oper} {rest : List Oper} {op : Oper} {a : Act} {w : World} {Q : Exit → Act → World → Prop} (hw : Region.wanted op (yielded ops a.tmps) = true) (t : TypeId) (x : Operand) (k : Nat) (ho : op.op = .field t x k)
    (v u : Value) (hx : a.eval x = v) (hf : (Instr.field t v k).run P w = .ok u w) (h : wpList P ops Q rest (a.put op.dst u) w) : wpList P ops Q (op :: rest) a w :=
  BigFrame.wpList_want hw fun K hK => by
    unfold Oper.wp
    simp only [exec_field t x k ho v u hx hf]
    exact hK _ _ h
end Go.Proofs.Ytnpibdjfafpegaa
namespace Go.Proofs.Ytnpibdjfafpegaa
open Go.RowKit
theorem zeroCells_one (v : Value) (k : Nat) : (Builtin.zeroCells #[v] k).toList = List.replicate k v := by
  unfold Builtin.zeroCells
  apply List.ext_getElem
  · simp
  · intro i h1 h2
    simp [Nat.mod_one]
theorem run_app_zeros (w : World) (ty base : Nat) (g n cap k : Nat) (xs : List Value) (hown : w.ownsRow base 5 1 (.slice (some ⟨g, 0, none⟩) n cap) n xs) (h0 : 0 < k) (hn : n + k ≤ 1000000) (hbase : base ≤ w.heap.size) :
    ∃ v' w', (Builtin.append_ #[22, 3] ty #[.slice (some ⟨g, 0, none⟩) n cap, .int .i64 (k : Int)]).run Try.prog w = .ok v' w' ∧ w'.ownsRow base 5 1 v' (n + k) (xs ++ List.replicate k (Value.int .u8 0)) ∧ w.grownBy w' (some g) := by
  obtain ⟨i, hi, hz, hs, hby⟩ := info_parts Try.info5
  have ht : Try.prog.underlying 22 = some (.slice 5) := Try.underlying22
  have htn : Try.prog.underlying 3 = some (.int .i64) := Try.underlying3
  have hzc : (Value.int .u8 0).cells = #[.int .u8 0] := rfl
  have hown0 := hown
  obtain ⟨hxl, ⟨h1, -⟩ | ⟨g', cap', cur, hv, hbg, hg, hnc, hcm, hcs, htake⟩⟩ := hown
  · cases h1
  cases hv
  simp only [Nat.mul_one] at hxl hcs htake
  by_cases hroom : n + k ≤ cap
  · have hst := run_storeCells_at Try.prog g n 5 (List.replicate k (.int .u8 0)) 0 cur w hg (by simp; omega) (by intro u hu; rw [(List.mem_replicate.1 hu).2]; rfl)
    simp only [Nat.add_zero] at hst
    have hw : IntKind.i64.wrap (k : Int) = k := by rw [IntKind.wrap_i64]; omega
    have hneg : ¬ ((k : Int) < 0) := by omega
    have h48 : ¬ (281474976710656 < (k : Int)) := by omega
    have hk : k ≠ 0 := by omega
    have hr : (Builtin.append_ #[22, 3] ty #[.slice (some ⟨g, 0, none⟩) n cap, .int .i64 (k : Int)]).run Try.prog w = .ok (.slice (some ⟨g, 0, none⟩) (n + k) cap) (w.setRow g (cur.toList.take n ++ List.replicate k (Value.int .u8 0) ++ cur.toList.drop (n + (List.replicate k (Value.int .u8 0)).length)).toArray) := by
      simp [Builtin.append_, run_underlying ht, run_underlying htn, sizeOf, typeInfo, zeroValue, hi, hz, hs, hby, asInt, asIntOf, hw, hneg, h48, hk, hroom, hzc, zeroCells_one, Addr.add_lit]
      simp [hst]
    refine ⟨_, _, hr, ⟨by simp [hxl], .inr ⟨g, cap, _, rfl, hbg, setRow_heap w g cur _ 5 _ hg, hroom, hcm, ?_, ?_⟩⟩, ⟨rfl, rfl, rfl, by simp, fun q _ hq => setRow_other w g q _ (fun e => hq (by rw [e]))⟩⟩
    · simp; omega
    · rw [htake, Nat.mul_one, List.take_append_of_le_length (by simp [hxl]), List.take_of_length_le (by simp [hxl])]
  · have hf := run_firstCells_some (P := Try.prog) w.drew 1 n ⟨g, 0, none⟩ n cap xs (by simpa using hxl) (fun j u hu => hown0.cells (g := g) rfl j u hu)
    have hfit := growslice_fits (need := n + k) (old := cap) (bytes := i.bytes) (by omega) (by rw [hby]; omega)
    have hr := Lib.run_append_grow_zeros (P := Try.prog) w 22 3 ty 5 i (.int .u8 0) .i64 .i64 ht htn hi hz (some ⟨g, 0, none⟩) n cap xs (by rw [hs]; exact hf) k h0 (by omega) (by omega) (by omega) (by rw [hby]; omega) hfit
    have hge := grownCap_ge w (n + k) cap 5
    have hcm2 : grownCap w (n + k) cap 5 ≤ maxLen := grownCap_le_maxLen w (n + k) cap 5 (by unfold maxLen; omega)
    refine ⟨_, _, hr, ⟨by simp [hxl], .inr ⟨w.heap.size, _, _, rfl, hbase, heap_alloc_new w.drew _, hge, hcm2, ?_, ?_⟩⟩, ⟨rfl, rfl, rfl, by simp, fun q hq _ => heap_alloc_old w.drew _ hq⟩⟩
    · simp only [Array.size_append, List.size_toArray, size_zeroCells, hzc, hxl]
      simp
      omega
    · simp only [Array.toList_append, List.append_assoc, hzc, zeroCells_one, Nat.mul_one]
      rw [← List.append_assoc, List.take_append_of_le_length (by simp [hxl]), List.take_of_length_le (by simp [hxl])]
end Go.Proofs.Ytnpibdjfafpegaa
namespace Go.Proofs.Ytnpibdjfafpegaa
open Go.RowKit
theorem wpList_app {w : World} {ops : Array Oper} {rest : List Oper} {o : Oper} {a : Act} {Q : Exit → Act → World → Prop} (hw : Region.wanted o (yielded ops a.tmps) = true) (s x : Operand)
    (ho : o.op = .call { callee := .builtin .append, args := #[s, x], argTypes := #[22, 22] })
    (base : Nat) (v : Value) (n : Nat) (zs : List Nat) (hs : a.eval s = v) (hown : w.ownsRow base 5 1 v n (nus .u8 zs))
    (ao : Option Addr) (len cap : Nat) (bs : List Nat) (hx : a.eval x = .slice ao len cap) (hr : Rd w (.slice ao len cap) (nus .u8 bs)) (hn : ao = none → cap = 0) (hlen : n + len ≤ 1000000) (hbase : base ≤ w.heap.size)
    (h : ∀ v' w', w'.ownsRow base 5 1 v' (n + len) (nus .u8 (zs ++ bs)) → w.grownBy w' v.ownBlock → wpList Try.prog ops Q rest (a.put o.dst v') w') :
    wpList Try.prog ops Q (o :: rest) a w := by
  obtain ⟨i0, hi, hz0, hz1, hz2⟩ := info_parts Try.info5
  obtain ⟨a', cap', e, h1, h2, h3⟩ := hr
  simp only [Value.slice.injEq] at e
  obtain ⟨rfl, he, rfl⟩ := e
  rw [nus_length] at he h1 h3
  subst he
  refine BigFrame.wpList_want hw fun K hK => ?_
  cases ao with
  | none =>
    obtain rfl := hn rfl
    have hb : bs = [] := by cases bs with | nil => rfl | cons _ _ => simp at h1
    subst hb
    have hrun := run_append_owned_none (P := Try.prog) (w := w) base 22 o.type 5 i0 1 Try.underlying22 hi v n (nus .u8 zs) hown
    unfold Oper.wp
    simp [execOp, ho, resolve, invoke, builtin, hs, hx, hrun, Result.andThen]
    exact hK _ _ (h v w (by simpa using hown) (World.grownBy.refl _ _))
  | some ad =>
    refine wp_append_own w s x 22 ho base 5 i0 (.int .u8 0) 1 1 Try.underlying22 hi hz0 hz1 hz2 rfl (by decide) v n (nus .u8 zs) hs hown ad bs.length cap (nus .u8 bs) hx (by rw [nus_length]; omega) ?_ (oneCell_nus _ _) (by unfold maxLen; omega) (by omega) hbase ?_
    · intro j u hj
      rcases h3 with h3 | ⟨b, off, e, hb, hcc⟩
      · rw [h3] at hj; simp at hj
      · cases e
        have hjl : j < (nus .u8 bs).length := (List.getElem?_eq_some_iff.1 hj).1
        rw [nus_length] at hjl
        rw [← hj]
        rw [Addr.add_lit]; exact hcc j hjl
    · intro v' w' hown' hgr _
      exact hK _ _ (h v' w' (by rw [nus_append]; exact hown') hgr)
theorem own_none (w : World) (e : TypeId) : (w.alloc (.cells #[] e)).ownsRow w.heap.size e 1 (.slice (some ⟨w.heap.size, 0, none⟩) 0 0) 0 (nus .u8 []) :=
  own_of_heap (show (w.heap.push (.cells #[] e))[w.heap.size]? = _ by simp [nus]) (Nat.le_refl _) rfl (by simp [maxLen])
end Go.Proofs.Ytnpibdjfafpegaa
namespace Go.Proofs.Ytnpibdjfafpegaa
open Go.RowKit
theorem own_front {w : World} {base g cap : Nat} {e : TypeId} {cur : Array Value} (hg : w.heap[g]? = some (.cells cur e (0, 0))) (hb : base ≤ g) (hc : cur.size = cap) (hm : cap ≤ maxLen) :
    w.ownsRow base e 1 (.slice (some ⟨g, 0, none⟩) 0 cap) 0 (nus .u8 []) :=
  ⟨by simp [nus], .inr ⟨g, cap, cur, rfl, hb, hg, Nat.zero_le _, hm, by simpa using hc, by simp [nus]⟩⟩
set_option maxRecDepth 100000 in
set_option maxHeartbeats 1000000 in
theorem grow_nil (n : Nat) (w : World) (h0 : 0 < n) (hn : n ≤ 1000000) :
    Calls Try.prog 44 #[.slice none 0 0, .int .i64 (n : Int)] w fun e w' => ∃ x, e = .returned x ∧ w'.ownsRow w.heap.size 5 1 x 0 (nus .u8 []) ∧ Below w.heap.size w w' := by
  obtain ⟨i, hi, hz, hs, hby⟩ := info_parts Try.info5
  have hr := Lib.hid (Lib.run_append_nil_zeros (P := Try.prog) w 22 3 22 5 i (.int .u8 0) .i64 .i64 Try.underlying22 Try.underlying3 hi hz n h0 (by omega) (by omega) (by rw [hby]; omega))
  have hcm := grownCap_le_maxLen w n 0 5 (by unfold maxLen; omega)
  have hge := grownCap_ge w n 0 5
  have hsz : (Builtin.zeroCells (Value.int .u8 0).cells n ++ Builtin.zeroCells (Value.int .u8 0).cells (grownCap w n 0 5 - n)).size = grownCap w n 0 5 := by
    rw [Array.size_append, size_zeroCells, size_zeroCells]
    show n * 1 + (grownCap w n 0 5 - n) * 1 = _
    omega
  generalize Builtin.zeroCells (Value.int .u8 0).cells n ++ Builtin.zeroCells (Value.int .u8 0).cells (grownCap w n 0 5 - n) = cur at *
  have hown := Lib.hid (own_front (base := w.heap.size) (heap_alloc_new w.drew (.cells cur 5)) (Nat.le_refl _) hsz hcm)
  have hbel := Lib.hid ((Below.refl w.heap.size w).drew.alloc (Nat.le_refl _) (.cells cur 5))
  generalize grownCap w n 0 5 = cap at *
  unfold maxLen at hcm
  clear hi hz hs hby hsz
  have hd1 : decide ((n : Int) < 0) = false := decide_eq_false (by omega)
  have hd2 : decide (0 < n) = true := decide_eq_true (by omega)
  go_enter Try.func44, Try.ntmps44
  go_wp2_with (refine Lib.wpList_append_run _ rfl (.tmp 20) (.tmp 21) 22 3 rfl _ _ rfl rfl _ _ hr.out ?_)
  go_wp2
  go_ret
  exact ⟨_, rfl, hown.out, hbel.out⟩
end Go.Proofs.Ytnpibdjfafpegaa
namespace Go.Proofs.Ytnpibdjfafpegaa
open Go.RowKit
set_option maxRecDepth 100000 in
set_option maxHeartbeats 400000 in
theorem word_any (v : Value) (k : Nat) (zs : List Nat) (w : World) (hr : Rd w v (nus .u8 zs)) (hb : ∀ c ∈ zs, c < 256) (hk : k + 2 ≤ zs.length) :
    Calls Try.prog 62 #[v, .int .i64 (k : Int)] w fun e w' => e = .returned (.int .u16 (u2 zs k : Nat)) ∧ w = w' := by
  have H := Lib.hid (get16_yes v k zs w hr hb hk)
  have HE := Lib.hid (be_u2 zs k hk)
  clear hr hb hk
  go_enter Try.func62, Try.ntmps62
  go_wp2_with fail
  refine H.out.mono ?_; rintro e w' ⟨rfl, rfl⟩
  rw [HE.out]
  go_wp2
  go_ret
  exact ⟨rfl, rfl⟩
set_option maxRecDepth 100000 in
set_option maxHeartbeats 400000 in
theorem tcpSize_any (v : Value) (zs : List Nat) (w : World) (hr : Rd w v (nus .u8 zs)) (hb : ∀ c ∈ zs, c < 256) (h20 : 20 ≤ zs.length) :
    Calls Try.prog 72 #[v] w fun e w' => e = .returned (.int .i64 (tz zs : Nat)) ∧ w = w' := by
  obtain ⟨a, cap, rfl, h1, h2⟩ := rd_shape hr
  obtain ⟨b, off, rfl, hc⟩ := hr.cells (by omega)
  have c0 := hc 12 (by omega)
  have hx := getD_lt zs hb 12
  have hH := Lib.hid (show (4 * (zs.getD 12 0 / 16) : Nat) = tz zs from rfl)
  unfold maxLen at h2
  generalize zs.length = len at *
  generalize zs.getD 12 0 = x at *
  clear hc hr hb
  go_enter Try.func72, Try.ntmps72
  go_wp2
  go_ret
  exact ⟨ret_int (by rw [← hH.out]; go_num), rfl⟩
set_option maxRecDepth 100000 in
set_option maxHeartbeats 400000 in
theorem udpSize_any (v : Value) (zs : List Nat) (w : World) (hr : Rd w v (nus .u8 zs)) (hb : ∀ c ∈ zs, c < 256) (h8 : 8 ≤ zs.length) :
    Calls Try.prog 73 #[v] w fun e w' => e = .returned (.int .i64 (u2 zs 4 : Nat)) ∧ w = w' := by
  have H := Lib.hid (word_any v 4 zs w hr hb (by omega))
  have hl := u2_lt zs 4 hb
  generalize u2 zs 4 = x at *
  clear hr hb h8
  go_enter Try.func73, Try.ntmps73
  go_wp2_with fail
  refine H.out.mono ?_; rintro e w' ⟨rfl, rfl⟩
  go_wp2
  go_ret
  exact ⟨rfl, rfl⟩
def mf (least n : Nat) (s : Nat) : Nat := if n < least then 1 else if s < least ∨ n < s then 3 else 0
set_option maxRecDepth 100000 in
set_option maxHeartbeats 800000 in
theorem misfit_tcp (v : Value) (zs : List Nat) (least : Nat) (s : Nat) (w : World) (hr : Rd w v (nus .u8 zs)) (_hl : least ≤ 20) (_hs : s < 65536)
    (hf : least ≤ zs.length → ∀ v2, v2 = v → Calls Try.prog 72 #[v2] w fun e w' => e = .returned (.int .i64 (s : Nat)) ∧ w = w') :
    Calls Try.prog 71 #[v, .int .i64 (least : Int), .func (.func 72) #[] #[]] w fun e w' => e = .returned (.int .i64 (mf least zs.length s : Nat)) ∧ w = w' := by
  obtain ⟨a, cap, rfl, h1, h2⟩ := rd_shape hr
  unfold maxLen at h2
  obtain ⟨F, hF⟩ : ∃ F, F = mf least zs.length s := ⟨_, rfl⟩
  rw [show (Calls Try.prog 71 #[.slice a zs.length cap, .int .i64 (least : Int), .func (.func 72) #[] #[]] w fun e w' => e = .returned (.int .i64 (mf least zs.length s : Nat)) ∧ w = w') = _ from by rw [← hF]]
  unfold mf at hF
  have HF := Lib.hid hF
  generalize zs.length = n at *
  clear hr hF
  by_cases h : n < least
  · have e : F = 1 := by rw [HF.out, if_pos h]
    subst e
    clear hf HF
    have hd : decide (n < least) = true := decide_eq_true h
    go_enter Try.func71, Try.ntmps71
    go_wp2
    go_ret
    exact ⟨rfl, rfl⟩
  have C := Lib.hid (hf (by omega) _ rfl)
  have hd : decide (n < least) = false := decide_eq_false h
  have HF2 := Lib.hid (HF.out.trans (if_neg h))
  clear hf HF h
  by_cases h3 : s < least
  · have e : F = 3 := by rw [HF2.out, if_pos (.inl h3)]
    subst e
    have hd2 : decide (s < least) = true := decide_eq_true h3
    clear HF2 h3
    go_enter Try.func71, Try.ntmps71
    go_wp2_with fail
    refine C.out.mono ?_; rintro e w' ⟨rfl, rfl⟩
    go_wp2
    go_ret
    exact ⟨rfl, rfl⟩
  have hd2 : decide (s < least) = false := decide_eq_false h3
  by_cases h4 : n < s
  · have e : F = 3 := by rw [HF2.out, if_pos (.inr h4)]
    subst e
    have hd3 : decide (n < s) = true := decide_eq_true h4
    clear HF2 h3 h4
    go_enter Try.func71, Try.ntmps71
    go_wp2_with fail
    refine C.out.mono ?_; rintro e w' ⟨rfl, rfl⟩
    go_wp2
    go_ret
    exact ⟨rfl, rfl⟩
  have e : F = 0 := by rw [HF2.out, if_neg (by omega)]
  subst e
  have hd3 : decide (n < s) = false := decide_eq_false h4
  clear HF2 h3 h4
  go_enter Try.func71, Try.ntmps71
  go_wp2_with fail
  refine C.out.mono ?_; rintro e w' ⟨rfl, rfl⟩
  go_wp2
  go_ret
  exact ⟨rfl, rfl⟩
set_option maxRecDepth 100000 in
set_option maxHeartbeats 800000 in
theorem misfit_udp (v : Value) (zs : List Nat) (least : Nat) (s : Nat) (w : World) (hr : Rd w v (nus .u8 zs)) (_hl : least ≤ 20) (_hs : s < 65536)
    (hf : least ≤ zs.length → ∀ v2, v2 = v → Calls Try.prog 73 #[v2] w fun e w' => e = .returned (.int .i64 (s : Nat)) ∧ w = w') :
    Calls Try.prog 71 #[v, .int .i64 (least : Int), .func (.func 73) #[] #[]] w fun e w' => e = .returned (.int .i64 (mf least zs.length s : Nat)) ∧ w = w' := by
  obtain ⟨a, cap, rfl, h1, h2⟩ := rd_shape hr
  unfold maxLen at h2
  obtain ⟨F, hF⟩ : ∃ F, F = mf least zs.length s := ⟨_, rfl⟩
  rw [show (Calls Try.prog 71 #[.slice a zs.length cap, .int .i64 (least : Int), .func (.func 73) #[] #[]] w fun e w' => e = .returned (.int .i64 (mf least zs.length s : Nat)) ∧ w = w') = _ from by rw [← hF]]
  unfold mf at hF
  have HF := Lib.hid hF
  generalize zs.length = n at *
  clear hr hF
  by_cases h : n < least
  · have e : F = 1 := by rw [HF.out, if_pos h]
    subst e
    clear hf HF
    have hd : decide (n < least) = true := decide_eq_true h
    go_enter Try.func71, Try.ntmps71
    go_wp2
    go_ret
    exact ⟨rfl, rfl⟩
  have C := Lib.hid (hf (by omega) _ rfl)
  have hd : decide (n < least) = false := decide_eq_false h
  have HF2 := Lib.hid (HF.out.trans (if_neg h))
  clear hf HF h
  by_cases h3 : s < least
  · have e : F = 3 := by rw [HF2.out, if_pos (.inl h3)]
    subst e
    have hd2 : decide (s < least) = true := decide_eq_true h3
    clear HF2 h3
    go_enter Try.func71, Try.ntmps71
    go_wp2_with fail
    refine C.out.mono ?_; rintro e w' ⟨rfl, rfl⟩
    go_wp2
    go_ret
    exact ⟨rfl, rfl⟩
  have hd2 : decide (s < least) = false := decide_eq_false h3
  by_cases h4 : n < s
  · have e : F = 3 := by rw [HF2.out, if_pos (.inr h4)]
    subst e
    have hd3 : decide (n < s) = true := decide_eq_true h4
    clear HF2 h3 h4
    go_enter Try.func71, Try.ntmps71
    go_wp2_with fail
    refine C.out.mono ?_; rintro e w' ⟨rfl, rfl⟩
    go_wp2
    go_ret
    exact ⟨rfl, rfl⟩
  have e : F = 0 := by rw [HF2.out, if_neg (by omega)]
  subst e
  have hd3 : decide (n < s) = false := decide_eq_false h4
  clear HF2 h3 h4
  go_enter Try.func71, Try.ntmps71
  go_wp2_with fail
  refine C.out.mono ?_; rintro e w' ⟨rfl, rfl⟩
  go_wp2
  go_ret
  exact ⟨rfl, rfl⟩
set_option maxRecDepth 100000 in
set_option maxHeartbeats 800000 in
theorem fault_any (p : Nat) (v : Value) (zs : List Nat) (w : World) (hr : Rd w v (nus .u8 zs)) (hb : ∀ c ∈ zs, c < 256) :
    Calls Try.prog 61 #[.int .u8 (p : Int), v] w fun e w' => e = .returned (.int .i64 (fs p zs : Nat)) ∧ w = w' := by
  by_cases h6 : p = 6
  · subst h6
    have C := Lib.hid (misfit_tcp v zs 20 (tz zs) w hr (by omega) (by have := getD_lt zs hb 12; unfold tz; omega) (fun h v2 e => by subst e; exact tcpSize_any _ zs w hr hb h))
    have E : Hid (mf 20 zs.length (tz zs) = fs 6 zs) := rfl
    clear hr hb
    go_enter Try.func61, Try.ntmps61
    go_wp2_with fail
    refine C.out.mono ?_; rintro e w' ⟨rfl, rfl⟩
    rw [E.out]
    go_wp2
    go_ret
    exact ⟨rfl, rfl⟩
  have g6 : ((p : Int) == 6) = false := by rw [beq_eq_false_iff_ne]; omega
  by_cases h17 : p = 17
  · subst h17
    have C := Lib.hid (misfit_udp v zs 8 (u2 zs 4) w hr (by omega) (u2_lt zs 4 hb) (fun h v2 e => by subst e; exact udpSize_any _ zs w hr hb h))
    have E : Hid (mf 8 zs.length (u2 zs 4) = fs 17 zs) := rfl
    clear hr hb h6 g6
    go_enter Try.func61, Try.ntmps61
    go_wp2_with fail
    refine C.out.mono ?_; rintro e w' ⟨rfl, rfl⟩
    rw [E.out]
    go_wp2
    go_ret
    exact ⟨rfl, rfl⟩
  have g17 : ((p : Int) == 17) = false := by rw [beq_eq_false_iff_ne]; omega
  have e : fs p zs = 6 := by unfold fs; rw [if_neg h6, if_neg h17]
  rw [e]
  clear hr hb h6 h17 e
  go_enter Try.func61, Try.ntmps61
  go_wp2
  go_ret
  exact ⟨rfl, rfl⟩
end Go.Proofs.Ytnpibdjfafpegaa
namespace Go.Proofs.Ytnpibdjfafpegaa
open Go.RowKit
theorem i30 : (Try.prog.info? 99).map (·.size) = some 3 := by kernel_rfl
def h00 : Array Value := #[.int .u16 0, .int .u16 0, .int .u8 0]
set_option maxRecDepth 100000 in
set_option maxHeartbeats 1000000 in
theorem read_no (p : Nat) (v : Value) (zs : List Nat) (w : World) (hr : Rd w v (nus .u8 zs)) (hb : ∀ c ∈ zs, c < 256) (h : fs p zs ≠ 0) :
    Calls Try.prog 53 #[.int .u8 (p : Int), v] w fun e w' => e = .returned (.tuple #[.agg (hs7 p zs), .int .i64 (fs p zs : Nat)]) ∧ Below w.heap.size w w' := by
  have CF := Lib.hid (fun W (h : Rd W v (nus .u8 zs)) => fault_any p v zs W h hb)
  have K := Lib.hid (Below.refl w.heap.size w)
  have HR := Lib.hid hr
  have hh : hs7 p zs = h00 := by unfold hs7; rw [if_neg h]; rfl
  rw [hh]
  obtain ⟨a, cap, rfl, -, -⟩ := rd_shape hr
  have Y0 : Hid (h00.size = Array.size (#[Value.int .u16 0, .int .u16 0, .int .u8 0] : Array Value)) := rfl
  have Z0 := Lib.hid (i30.trans (congrArg some (show 3 = h00.size from rfl)))
  have A0 := Lib.hid (show h00.all (·.oneCell') = true by simp [h00, Value.oneCell'])
  generalize fs p zs = r at *
  generalize zs.length = n at *
  have g0 : ((r : Int) != 0) = true := by simp; omega
  clear hr hb h hh
  go_enter Try.func53, Try.ntmps53
  have hal := (Below.refl w.heap.size w).alloc (Nat.le_refl _) (.cells #[Value.int .u16 0, .int .u16 0, .int .u8 0] 99)
  replace K := Lib.hid (K.out.trans (hal.mono K.out.size))
  replace HR := Lib.hid (HR.out.below hal)
  have HH := Lib.hid (Blk.new w 99 #[Value.int .u16 0, .int .u16 0, .int .u8 0])
  clear hal
  go_wp2_with fail
  have hzV1 : Hid ((w.alloc (.cells #[Value.int .u16 0, .int .u16 0, .int .u8 0] 99)).heap.size = w.heap.size + 1) := by show _ = _; simp only [World.size_alloc]
  generalize (w.alloc (.cells #[Value.int .u16 0, .int .u16 0, .int .u8 0] 99)) = V1 at *
  refine (CF.out _ HR.out).mono ?_
  rintro e V2 ⟨rfl, rfl⟩
  go_wp2_with (((with_reducible refine wpList_blk_store (op := ⟨none, .store 99 (.tmp 4) (.tmp 12), _, _, _, _⟩) ?sg1 99 (.tmp 4) (.tmp 12) ?so1 (w.heap.size) h00 ?sx1 ?sy1 HH.out Y0.out Z0.out A0.out ?_); (case sg1 => rfl); (case so1 => rfl); (case sx1 => rfl); (case sy1 => rfl)))
  intro V3 hA hF hB
  replace K := Lib.hid (K.out.trans (hB _ (by omega)))
  replace HH := Lib.hid hA
  clear hA hF hB
  go_wp2
  have hrun := run_blk_load (P := Try.prog) 99 w.heap.size _ HH.out Try.underlying99 rfl Z0.out
  exact bodyPost_ret (results_cell_tmp 4 99 5 w.heap.size _ Try.results53 rfl hrun) rfl ⟨rfl, K.out⟩
set_option maxRecDepth 100000 in
set_option maxHeartbeats 1000000 in
theorem read_udp (v : Value) (zs : List Nat) (w : World) (hr : Rd w v (nus .u8 zs)) (hb : ∀ c ∈ zs, c < 256) (h : fs 17 zs = 0) :
    Calls Try.prog 53 #[.int .u8 17, v] w fun e w' => e = .returned (.tuple #[.agg (hs7 17 zs), .int .i64 0]) ∧ Below w.heap.size w w' := by
  have hlen : 8 ≤ zs.length := by
    rcases fs_yes 17 zs h with ⟨e, -, -⟩ | ⟨-, h1, -⟩
    · omega
    · exact h1
  obtain ⟨a, cap, rfl, hlc, hlm⟩ := rd_shape hr
  obtain ⟨b, off, rfl, hce⟩ := hr.cells (by omega)
  have HA := Lib.hid ((Below.refl w.heap.size w).alloc (Nat.le_refl _) (.cells #[Value.int .u16 0, .int .u16 0, .int .u8 0] 99))
  have CF := Lib.hid (fault_any 17 _ zs _ (hr.below HA.out) hb)
  rw [h] at CF
  have HB := Lib.hid ((Below.refl w.heap.size w).alloc (Nat.le_refl _) (.cells #[Value.int .u16 (u2 zs 0 : Nat), .int .u16 (u2 zs 2 : Nat), .int .u8 (fl 17 zs : Nat)] 99))
  have hh : hs7 17 zs = #[.int .u16 (u2 zs 0 : Nat), .int .u16 (u2 zs 2 : Nat), .int .u8 (fl 17 zs : Nat)] := by unfold hs7; rw [if_pos h]
  rw [hh]
  have CW := Lib.hid (word_any _ 0 zs _ (hr.below HA.out) hb (by omega))
  have CX := Lib.hid (word_any _ 2 zs _ (hr.below HA.out) hb (by omega))
  have hf : fl 17 zs = 0 := rfl
  rw [hf] at HB ⊢
  clear hf
  generalize u2 zs 0 = x0 at *
  generalize u2 zs 2 = x2 at *
  unfold maxLen at hlm
  generalize zs.length = n at *
  clear hr hb h hh hce
  go_enter Try.func53, Try.ntmps53
  go_wp2_with fail
  refine CF.out.mono ?_; rintro e w' ⟨rfl, rfl⟩
  go_wp2_with fail
  refine CW.out.mono ?_; rintro e w' ⟨rfl, rfl⟩
  go_wp2_with fail
  refine CX.out.mono ?_; rintro e w' ⟨rfl, rfl⟩
  go_wp2
  refine bodyPost_ret (v := .tuple #[.agg #[.int .u16 x0, .int .u16 x2, .int .u8 ((0 : Nat) : Nat)], .int .i64 0]) (by simp [results, Try.results53, go_sem]) rfl ⟨rfl, HB.out⟩
set_option maxRecDepth 100000 in
set_option maxHeartbeats 1000000 in
theorem read_tcp (v : Value) (zs : List Nat) (w : World) (hr : Rd w v (nus .u8 zs)) (hb : ∀ c ∈ zs, c < 256) (h : fs 6 zs = 0) :
    Calls Try.prog 53 #[.int .u8 6, v] w fun e w' => e = .returned (.tuple #[.agg (hs7 6 zs), .int .i64 0]) ∧ Below w.heap.size w w' := by
  have hlen : 20 ≤ zs.length := by
    rcases fs_yes 6 zs h with ⟨-, h1, -⟩ | ⟨e, -, -⟩
    · exact h1
    · omega
  obtain ⟨a, cap, rfl, hlc, hlm⟩ := rd_shape hr
  obtain ⟨b, off, rfl, hce⟩ := hr.cells (by omega)
  have HA := Lib.hid ((Below.refl w.heap.size w).alloc (Nat.le_refl _) (.cells #[Value.int .u16 0, .int .u16 0, .int .u8 0] 99))
  have CF := Lib.hid (fault_any 6 _ zs _ (hr.below HA.out) hb)
  rw [h] at CF
  have HB := Lib.hid ((Below.refl w.heap.size w).alloc (Nat.le_refl _) (.cells #[Value.int .u16 (u2 zs 0 : Nat), .int .u16 (u2 zs 2 : Nat), .int .u8 (fl 6 zs : Nat)] 99))
  have hh : hs7 6 zs = #[.int .u16 (u2 zs 0 : Nat), .int .u16 (u2 zs 2 : Nat), .int .u8 (fl 6 zs : Nat)] := by unfold hs7; rw [if_pos h]
  rw [hh]
  have CW := Lib.hid (word_any _ 0 zs _ (hr.below HA.out) hb (by omega))
  have CX := Lib.hid (word_any _ 2 zs _ (hr.below HA.out) hb (by omega))
  have C13 := hce 13 (by omega)
  have hb0 := rd_cell C13
  have c13 := C13
  have C13 := Lib.hid C13
  have hf : fl 6 zs = zs.getD 13 0 := rfl
  rw [hf] at HB ⊢
  have h13n : (13 : Int) < (zs.length : Int) := by omega
  generalize zs.getD 13 0 = x13 at *
  clear hf
  generalize u2 zs 0 = x0 at *
  generalize u2 zs 2 = x2 at *
  unfold maxLen at hlm
  generalize zs.length = n at *
  clear hr hb h hh hce
  go_enter Try.func53, Try.ntmps53
  go_wp2_with fail
  refine CF.out.mono ?_; rintro e w' ⟨rfl, rfl⟩
  go_wp2_with fail
  refine CW.out.mono ?_; rintro e w' ⟨rfl, rfl⟩
  go_wp2_with fail
  refine CX.out.mono ?_; rintro e w' ⟨rfl, rfl⟩
  go_wp2
  refine bodyPost_ret (v := .tuple #[.agg #[.int .u16 x0, .int .u16 x2, .int .u8 (x13 : Nat)], .int .i64 0]) (by simp [results, Try.results53, go_sem]) rfl ⟨rfl, HB.out⟩
theorem read_any (p : Nat) (v : Value) (zs : List Nat) (w : World) (hr : Rd w v (nus .u8 zs)) (hb : ∀ c ∈ zs, c < 256) :
    Calls Try.prog 53 #[.int .u8 (p : Int), v] w fun e w' => e = .returned (.tuple #[.agg (hs7 p zs), .int .i64 (fs p zs : Nat)]) ∧ Below w.heap.size w w' := by
  by_cases h : fs p zs = 0
  · rw [h]
    rcases fs_yes p zs h with ⟨rfl, -⟩ | ⟨rfl, -⟩
    · exact read_tcp v zs w hr hb h
    · exact read_udp v zs w hr hb h
  · exact read_no p v zs w hr hb h
end Go.Proofs.Ytnpibdjfafpegaa
namespace Go.Proofs.Ytnpibdjfafpegaa
open Go.RowKit
theorem hi_i64 (v : Nat) (h : v < 65536) : IntKind.u8.wrap ((v : Int) / 256) = ((v / 256 : Nat) : Int) := by rw [IntKind.wrap_u8]; omega
theorem lo_i64 (v : Nat) : IntKind.u8.wrap (v : Int) = ((v % 256 : Nat) : Int) := by rw [IntKind.wrap_u8]; omega
set_option maxHeartbeats 800000 in
theorem rput16_any (g n cap base k v : Nat) (zs : List Nat) (w : World) (hown : w.ownsRow base 5 1 (.slice (some ⟨g, 0, none⟩) n cap) n (nus .u8 zs)) (hn : n ≤ maxLen) (hk : k + 2 ≤ n) (hv : v < 65536) :
    Calls Try.prog 21 #[.slice (some ⟨g, 0, none⟩) n cap, .int .i64 (k : Int), .int .i64 (v : Int)] w fun e w' => e = .returned (.tuple #[]) ∧ w'.ownsRow base 5 1 (.slice (some ⟨g, 0, none⟩) n cap) n (nus .u8 ((zs.set k (v / 256)).set (k + 1) (v % 256))) ∧ w.grownBy w' (some g) := by
  have hzl : zs.length = n := by have := hown.1; simpa [nus_length] using this
  unfold maxLen at hn
  have hcell := hown.cellAt k (by omega)
  have hcel2 := hown.cellAt (k + 1) (by omega)
  rw [nus_get _ _ _ (by omega)] at hcell hcel2
  have hfz := hown.frozenAt k
  have hfz2 := hown.frozenAt (k + 1)
  have e1 := hi_i64 v hv
  have e2 := lo_i64 v
  have hst := hown.stored k (.int .u8 ((v / 256 : Nat) : Int))
  rw [nus_set] at hst
  have hst2 := hst.1.stored (k + 1) (.int .u8 ((v % 256 : Nat) : Int))
  rw [nus_set] at hst2
  have HS := Lib.hid hst
  have HS2 := Lib.hid hst2
  clear hown hst hst2
  go_enter Try.func21, Try.ntmps21
  go_wp2
  refine bodyPost_end (results_none rfl _ _ _) rfl ?_
  exact ⟨rfl, HS2.out.1, grownBy_trans HS.out.2 HS2.out.2⟩
end Go.Proofs.Ytnpibdjfafpegaa
namespace Go.Proofs.Ytnpibdjfafpegaa
open Go.RowKit
def str (zs : List Nat) : ByteArray := ⟨(zs.map UInt8.ofNat).toArray⟩
theorem str_inj (a b : List Nat) (ha : ∀ c ∈ a, c < 256) (hb : ∀ c ∈ b, c < 256) (h : str a = str b) : a = b := by
  have h1 : a.map UInt8.ofNat = b.map UInt8.ofNat := by
    have := congrArg (fun s : ByteArray => s.data.toList) h
    simpa [str] using this
  have h2 : ∀ l : List Nat, (∀ c ∈ l, c < 256) → (l.map UInt8.ofNat).map UInt8.toNat = l := by
    intro l hl
    rw [List.map_map]
    conv => rhs; rw [← List.map_id l]
    apply List.map_congr_left
    intro c hc
    have := hl c hc
    simp only [Function.comp_apply, id_eq, UInt8.toNat_ofNat']
    omega
  rw [← h2 a ha, ← h2 b hb, h1]
theorem strOfNums_nat (zs : List Nat) : strOfNums (zs.map fun n : Nat => (n : Int)) = str zs := by
  unfold strOfNums str
  rw [List.map_map]
  rfl
theorem conv_rd {P : Program} (w : World) (src dst e : TypeId) (hs : P.underlying src = some (.slice e)) (he : P.underlying e = some (.int .u8)) (hd : P.underlying dst = some .string) (v : Value) (zs : List Nat) (h : Rd w v (nus .u8 zs)) :
    (convert src dst v).run P w = .ok (.string (str zs)) w := by
  obtain ⟨a, cap, rfl, _, _, hx⟩ := h
  rw [nus_length] at hx ⊢
  rw [← strOfNums_nat]
  rcases hx with hx | ⟨b, off, rfl, _, hc⟩
  · obtain rfl := (nus_nil _ _).1 hx
    cases a with
    | none => exact run_convert_bytes_nil w src e hs he _ _ dst hd
    | some ad =>
      rw [run_convert_bytes_string w src dst e _ _ _ hs he hd, List.length_nil, run_bytesToString w ad 0 cap [] (by simp [loadCells, go_sem])]
      rfl
  · exact run_convert_bytes_arg w src e hs he b off zs.length cap (zs.map fun n : Nat => (n : Int)) (by simp) (fun i hi => by
      rw [hc i hi, nus_get _ _ _ hi]
      simp [List.getD_eq_getElem?_getD, List.getElem?_eq_getElem hi]) dst hd
end Go.Proofs.Ytnpibdjfafpegaa
namespace Go.Proofs.Ytnpibdjfafpegaa
open Go.RowKit
theorem net_at (zs : List Nat) (h : (net zs).2.2 = 0) : ∃ n, (net zs).1 = n + 2 ∧ n + 2 ≤ zs.length ∧ (n = 12 ∨ n = 16) ∧ u2 zs n = (net zs).2.1 := by
  unfold net netK at h ⊢
  split at h
  · simp at h
  · rename_i h14
    rw [if_neg h14]
    split at h
    · rename_i hv
      rw [if_pos hv]
      split at h
      · simp at h
      · rename_i h18
        rw [if_neg h18]
        split at h
        · rename_i hk
          rw [if_pos hk]
          exact ⟨16, rfl, by omega, .inr rfl, rfl⟩
        · simp at h
    · rename_i hv
      rw [if_neg hv]
      split at h
      · rename_i hk
        rw [if_pos hk]
        exact ⟨12, rfl, by omega, .inl rfl, rfl⟩
      · simp at h
end Go.Proofs.Ytnpibdjfafpegaa
namespace Go.Proofs.Ytnpibdjfafpegaa
open Go.RowKit
theorem wp_app {w : World} {K : Act → World → Prop} {Q : Exit → Act → World → Prop} {o : Oper} {a : Act} (s x : Operand)
    (ho : o.op = .call { callee := .builtin .append, args := #[s, x], argTypes := #[22, 22] })
    (base : Nat) (v : Value) (n : Nat) (zs : List Nat) (hs : a.eval s = v) (hown : w.ownsRow base 5 1 v n (nus .u8 zs))
    (ao : Option Addr) (len cap : Nat) (bs : List Nat) (hx : a.eval x = .slice ao len cap) (hr : Rd w (.slice ao len cap) (nus .u8 bs)) (hn : ao = none → cap = 0) (hlen : n + len ≤ 1000000) (hbase : base ≤ w.heap.size)
    (h : ∀ v' w', w'.ownsRow base 5 1 v' (n + len) (nus .u8 (zs ++ bs)) → w.grownBy w' v.ownBlock → K (a.put o.dst v') w') :
    o.wp Try.prog a w K Q := by
  obtain ⟨i0, hi, hz0, hz1, hz2⟩ := info_parts Try.info5
  obtain ⟨a', cap', e, h1, h2, h3⟩ := hr
  simp only [Value.slice.injEq] at e
  obtain ⟨rfl, he, rfl⟩ := e
  rw [nus_length] at he h1 h3
  subst he
  cases ao with
  | none =>
    obtain rfl := hn rfl
    have hb : bs = [] := by cases bs with | nil => rfl | cons _ _ => simp at h1
    subst hb
    have hrun := run_append_owned_none (P := Try.prog) (w := w) base 22 o.type 5 i0 1 Try.underlying22 hi v n (nus .u8 zs) hown
    unfold Oper.wp
    simp [execOp, ho, resolve, invoke, builtin, hs, hx, hrun, Result.andThen]
    exact h v w (by simpa using hown) (World.grownBy.refl _ _)
  | some ad =>
    refine wp_append_own w s x 22 ho base 5 i0 (.int .u8 0) 1 1 Try.underlying22 hi hz0 hz1 hz2 rfl (by decide) v n (nus .u8 zs) hs hown ad bs.length cap (nus .u8 bs) hx (by rw [nus_length]; omega) ?_ (oneCell_nus _ _) (by unfold maxLen; omega) (by omega) hbase ?_
    · intro j u hj
      rcases h3 with h3 | ⟨b, off, e, hb, hcc⟩
      · rw [h3] at hj; simp at hj
      · cases e
        have hjl : j < (nus .u8 bs).length := (List.getElem?_eq_some_iff.1 hj).1
        rw [nus_length] at hjl
        rw [← hj]
        rw [Addr.add_lit]; exact hcc j hjl
    · intro v' w' hown' hgr _
      exact h v' w' (by rw [nus_append]; exact hown') hgr
end Go.Proofs.Ytnpibdjfafpegaa
namespace Go.Proofs.Ytnpibdjfafpegaa
open Go.RowKit
set_option maxHeartbeats 400000 in
theorem app16_any (va : Value) (zs : List Nat) (v : Nat) (w : World) (hr : Rd w va (nus .u8 zs)) (hz : zs.length ≤ 140737488351232) (hv : v < 65536) :
    Calls Try.prog 41 #[va, .int .u16 v] w fun e w' => ∃ x, e = .returned x ∧ w'.ownsRow w.heap.size 5 1 x (zs.length + 2) (nus .u8 (zs ++ bg 2 v)) ∧ Below w.heap.size w w' := by
  obtain ⟨i0, hi, hz0, hz1, hz2⟩ := info_parts Try.info5
  obtain ⟨a, cap, rfl, hlc, hl, hx⟩ := hr
  rw [nus_length] at hlc hx ⊢
  obtain ⟨len, hlen⟩ : ∃ len, len = zs.length := ⟨_, rfl⟩
  rw [← hlen] at hlc hx hz ⊢
  have HL := Lib.hid hlen
  have HX := Lib.hid hx
  clear hlen hx
  unfold maxLen at hl
  go_enter Try.func41, Try.ntmps41
  have hbase : w.heap.size ≤ w.heap.size := Nat.le_refl _
  go_wp2_with (first
    | (go_at_call 54; refine (size16_any _).mono ?_; rintro e w' ⟨rfl, rfl⟩)
    | (at_make; refine wpList_make_full _ rfl _ _ 22 rfl w.heap.size 5 i0 (.int .u8 0) 1 Try.underlying22 hi hz0 hz1 .i64 .i64 _ _ (len + 2) rfl rfl ?c1 ?c2 ?c3 ?c4 hbase ?_))
  case c1 => omega
  case c2 => omega
  case c3 => rw [hz2]; omega
  case c4 => unfold maxLen; omega
  intro w1 hown hgr
  have hb1 : Below w.heap.size w w1 := (Below.refl _ _).grown hgr (Nat.le_refl _) (fun k hk => by cases hk)
  obtain ⟨hh, _⟩ := own_heap hown
  have hrd : Rd w1 (.slice a len cap) (nus .u8 zs) := (show Rd w (.slice a len cap) (nus .u8 zs) from ⟨a, cap, by rw [nus_length, HL.out], by rw [nus_length, ← HL.out]; exact hlc, hl, by rw [nus_length, ← HL.out]; exact HX.out⟩).below hb1
  have hsrc := Lib.hid hrd.src
  have HH := Lib.hid hh
  have HB1 := Lib.hid hb1
  clear hh hown hgr hrd hb1
  go_wp2_with (with_reducible refine wpList_copy_splice rfl (.tmp 11) (.tmp 12) 22 22 rfl 5 Try.underlying22 Try.size5 _ _ _ _ _ _ rfl rfl w.heap.size 0 _ 5 HH.out (nus .u8 zs) ?d1 ?d2 ?d3 (oneCell_nus _ _) w.heap.size w HB1.out (Nat.le_refl _) ?_)
  case d1 => rw [nus_length, ← HL.out]; exact (Nat.min_eq_left (by omega)).symm
  case d2 => exact hsrc.out
  case d3 => rw [nus_length, ← HL.out, size_made]; omega
  intro w2 h2 hb2
  have hh2 := h2.out
  rw [splice_made zs 2 _ HL.out] at hh2
  have hown2 := own_of_heap (base := w.heap.size) (n := len + 2) hh2 (Nat.le_refl _) (by rw [nus_length, List.length_append, List.length_replicate, ← HL.out]) (by unfold maxLen; omega)
  have HO := Lib.hid hown2
  have HB2 := Lib.hid hb2
  clear hh2 hown2 h2 hb2 hsrc HH HB1 HX
  go_wp2_with (go_at_call 55; (refine (put16_yes w.heap.size (len + 2) (len + 2) w.heap.size len v _ _ HO.out (by unfold maxLen; omega) (Nat.le_refl _) hv).mono ?_); rintro e w3 ⟨rfl, hown3, hgr3⟩)
  go_ret
  refine ⟨_, rfl, ?_, HB2.out.grown hgr3 HB2.out.size (fun k hk => by cases hk; exact Nat.le_refl _)⟩
  rw [putRow_app zs 2 v len HL.out] at hown3
  exact hown3
end Go.Proofs.Ytnpibdjfafpegaa
namespace Go.Proofs.Ytnpibdjfafpegaa
open Go.RowKit
def csN (n : Nat → Nat) : Nat → Nat
  | 0 => 0
  | j + 1 => csN n j + n j
def crN (z : Nat → List Nat) : Nat → List Nat
  | 0 => []
  | j + 1 => crN z j ++ z j
theorem csN_le (n : Nat → Nat) {j k : Nat} (h : j ≤ k) : csN n j ≤ csN n k := by
  induction h with
  | refl => exact Nat.le_refl _
  | step _ ih => exact Nat.le_trans ih (Nat.le_add_right _ _)
theorem lt_cell {w : World} {b o : Nat} {v : Value} (h : w.cell? ⟨b, o, none⟩ = some v) : b < w.heap.size := by
  rcases Nat.lt_or_ge b w.heap.size with q | q
  · exact q
  · simp [World.cell?, Array.getElem?_eq_none q] at h
end Go.Proofs.Ytnpibdjfafpegaa
namespace Go.Proofs.Ytnpibdjfafpegaa
open Go.RowKit
set_option maxRecDepth 100000 in
set_option maxHeartbeats 2000000 in
theorem concat_any (cnt : Nat) (hcnt : cnt ≤ 1000) (b : Nat) (a : Nat → Option Addr) (n c : Nat → Nat) (z : Nat → List Nat) (w : World)
    (hc : ∀ j, j < cnt → w.cell? ⟨b, j, none⟩ = some (.slice (a j) (n j) (c j))) (hr : ∀ j, j < cnt → Rd w (.slice (a j) (n j) (c j)) (nus .u8 (z j)))
    (h0 : ∀ j, j < cnt → a j = none → c j = 0) (hl : ∀ j, j < cnt → (z j).length = n j) (hp : 0 < csN n cnt) (hm : csN n cnt ≤ 1000000) :
    Calls Try.prog 31 #[.slice (some ⟨b, 0, none⟩) cnt cnt] w fun e w' => ∃ x, e = .returned x ∧ w'.ownsRow w.heap.size 5 1 x (csN n cnt) (nus .u8 (crN z cnt)) ∧ Below w.heap.size w w' := by
  have hb : b < w.heap.size := by
    rcases Nat.eq_zero_or_pos cnt with q | q
    · rw [q] at hp; exact absurd hp (by simp [csN])
    · exact lt_cell (hc 0 q)
  have C := Lib.hid hc
  have H := Lib.hid hr
  have H0 := Lib.hid h0
  have HL := Lib.hid hl
  have M := Lib.hid (fun (j : Nat) (h : j ≤ cnt) => Nat.le_trans (csN_le n h) hm)
  obtain ⟨N, hN⟩ : ∃ N, N = csN n cnt := ⟨_, rfl⟩
  have HN := Lib.hid hN
  have hd1 : decide ((N : Int) < 0) = false := decide_eq_false (by omega)
  rw [← hN] at hp hm ⊢
  clear hc hr h0 hl hN
  go_enter Try.func31, Try.ntmps31
  go_wp2_with fail
  go_loop [3, 11] (fun s i => ∃ j : Nat, j ≤ cnt ∧ i = .int .i64 (j : Int) ∧ s = .int .i64 (csN n j : Nat)) (fun _ i => cnt - (intOf i).toNat)
  case atStart => exact ⟨0, by omega, rfl, rfl⟩
  case round =>
    obtain ⟨j, hj, rfl, rfl⟩ := hrel
    by_cases hjc : j < cnt
    · have c0 := C.out j hjc
      have m0 := M.out j hj
      have m1 := M.out (j + 1) hjc
      rw [csN] at m1
      have e1 : IntKind.i64.wrap ((csN n j : Int) + (n j : Int)) = ((csN n (j + 1) : Nat) : Int) := by rw [IntKind.wrap_i64, csN]; omega
      have E1 := Lib.hid e1
      have j1 : (j : Int) < (cnt : Int) := by omega
      have d1 : decide (((csN n (j + 1) : Nat) : Int) < 0) = false := decide_eq_false (by omega)
      have HT := Lib.hid (show ∃ T, T = csN n (j + 1) from ⟨_, rfl⟩)
      obtain ⟨T, hT⟩ := HT.out
      have HT := Lib.hid hT
      rw [← hT] at e1 d1
      clear E1 hT
      generalize csN n j = S at *
      generalize n j = m at *
      go_wp2
      go_round
      case rel => exact ⟨j + 1, by omega, by go_num, by rw [HT.out]⟩
      case measure => simp [intOf]; omega
    · obtain rfl : cnt = j := by omega
      rw [← HN.out]
      go_wp2_with fail
      refine (grow_nil N w hp hm).mono ?_; rintro e w1 ⟨x, rfl, ho, hbw⟩
      have O := Lib.hid ho
      have B := Lib.hid hbw
      clear ho hbw hd1
      go_wp2_with fail
      go_loopw [6, 27] (fun s i wr => ∃ j : Nat, j ≤ cnt ∧ i = .int .i64 (j : Int) ∧ wr.ownsRow w.heap.size 5 1 s (csN n j) (nus .u8 (crN z j)) ∧ Below w.heap.size w wr) (fun _ i _ => cnt - (intOf i).toNat)
      case atStart => exact ⟨0, by omega, rfl, O.out, B.out⟩
      case round =>
        obtain ⟨j, hj, rfl, ho, hbw⟩ := hrel
        have OJ := Lib.hid ho
        have BJ := Lib.hid hbw
        clear ho hbw
        by_cases hjc : j < cnt
        · have c0 := (BJ.out.cell (p := ⟨b, j, none⟩) hb).trans (C.out j hjc)
          have R1 := Lib.hid ((H.out j hjc).below BJ.out)
          have m0 := M.out j hj
          have hl := HL.out j hjc
          have h0 := Lib.hid (H0.out j hjc)
          have b0 := BJ.out.size
          have m1 := M.out (j + 1) hjc
          rw [csN] at m1
          have j1 : (j : Int) < (cnt : Int) := by omega
          have EC : Hid (csN n (j + 1) = csN n j + n j) := rfl
          have ER : Hid (crN z (j + 1) = crN z j ++ z j) := rfl
          obtain ⟨T, hT⟩ : ∃ T, T = csN n (j + 1) := ⟨_, rfl⟩
          obtain ⟨U, hU⟩ : ∃ U, U = crN z (j + 1) := ⟨_, rfl⟩
          rw [← hT] at EC
          rw [← hU] at ER
          have HT := Lib.hid hT
          have HU := Lib.hid hU
          clear hT hU
          generalize csN n j = S at *
          generalize crN z j = X at *
          generalize n j = m at *
          generalize z j = Y at *
          generalize a j = A at *
          generalize c j = k at *
          subst hl
          go_wp2_with (at_builtin; refine wpList_app rfl (.tmp 31) (.tmp 32) rfl w.heap.size _ S X rfl OJ.out A Y.length k Y rfl R1.out h0.out ?x0a ?x0b ?x0c)
          case x0a => omega
          case x0b => exact b0
          intro v2 w2 o2 g2
          have K2 := Lib.hid (BJ.out.grown g2 BJ.out.size (fun k e => (OJ.out.lt k e).1))
          have O2 : Hid (w2.ownsRow w.heap.size 5 1 v2 T (nus .u8 U)) := by show World.ownsRow _ _ _ _ _ _ _; rw [EC.out, ER.out]; exact o2
          clear o2 g2 c0 EC ER
          go_wp2
          go_roundw
          case rel => exact ⟨j + 1, by omega, by go_num, by rw [← HT.out, ← HU.out]; exact O2.out, K2.out⟩
          case measure => simp [intOf]; omega
        · obtain rfl : cnt = j := by omega
          rw [← HN.out] at OJ
          have O1 := Lib.hid OJ.out
          clear OJ hj hjc
          go_wp2
          go_ret
          exact ⟨_, rfl, O1.out, BJ.out⟩
theorem concat_2 (b : Nat) (a0 a1 : Option Addr) (n0 n1 c0 c1 : Nat) (z0 z1 : List Nat) (w : World) (B : Blk w b 22 #[.slice a0 n0 c0, .slice a1 n1 c1])
    (r0 : Rd w (.slice a0 n0 c0) (nus .u8 z0)) (r1 : Rd w (.slice a1 n1 c1) (nus .u8 z1))
    (h0 : a0 = none → c0 = 0) (h1 : a1 = none → c1 = 0) (l0 : z0.length = n0) (l1 : z1.length = n1) (hp : 0 < n0) (hm : n0 + n1 ≤ 1000000) :
    Calls Try.prog 31 #[.slice (some ⟨b, 0, none⟩) 2 2] w fun e w' => ∃ x, e = .returned x ∧ w'.ownsRow w.heap.size 5 1 x (n0 + n1) (nus .u8 (z0 ++ z1)) ∧ Below w.heap.size w w' := by
  have := concat_any 2 (by omega) b (fun j => match j with | 0 => a0 | _ => a1) (fun j => match j with | 0 => n0 | _ => n1) (fun j => match j with | 0 => c0 | _ => c1) (fun j => match j with | 0 => z0 | _ => z1) w
    (fun j hj => by match j, hj with | 0, _ => exact B.cell 0 | 1, _ => exact B.cell 1)
    (fun j hj => by match j, hj with | 0, _ => exact r0 | 1, _ => exact r1)
    (fun j hj => by match j, hj with | 0, _ => exact h0 | 1, _ => exact h1)
    (fun j hj => by match j, hj with | 0, _ => exact l0 | 1, _ => exact l1)
    (by simp only [csN]; omega) (by simp only [csN]; omega)
  simpa [csN, crN] using this
theorem concat_3 (b : Nat) (a0 a1 a2 : Option Addr) (n0 n1 n2 c0 c1 c2 : Nat) (z0 z1 z2 : List Nat) (w : World) (B : Blk w b 22 #[.slice a0 n0 c0, .slice a1 n1 c1, .slice a2 n2 c2])
    (r0 : Rd w (.slice a0 n0 c0) (nus .u8 z0)) (r1 : Rd w (.slice a1 n1 c1) (nus .u8 z1)) (r2 : Rd w (.slice a2 n2 c2) (nus .u8 z2))
    (h0 : a0 = none → c0 = 0) (h1 : a1 = none → c1 = 0) (h2 : a2 = none → c2 = 0) (l0 : z0.length = n0) (l1 : z1.length = n1) (l2 : z2.length = n2) (hp : 0 < n0) (hm : n0 + n1 + n2 ≤ 1000000) :
    Calls Try.prog 31 #[.slice (some ⟨b, 0, none⟩) 3 3] w fun e w' => ∃ x, e = .returned x ∧ w'.ownsRow w.heap.size 5 1 x (n0 + n1 + n2) (nus .u8 (z0 ++ (z1 ++ z2))) ∧ Below w.heap.size w w' := by
  have := concat_any 3 (by omega) b (fun j => match j with | 0 => a0 | 1 => a1 | _ => a2) (fun j => match j with | 0 => n0 | 1 => n1 | _ => n2) (fun j => match j with | 0 => c0 | 1 => c1 | _ => c2) (fun j => match j with | 0 => z0 | 1 => z1 | _ => z2) w
    (fun j hj => by match j, hj with | 0, _ => exact B.cell 0 | 1, _ => exact B.cell 1 | 2, _ => exact B.cell 2)
    (fun j hj => by match j, hj with | 0, _ => exact r0 | 1, _ => exact r1 | 2, _ => exact r2)
    (fun j hj => by match j, hj with | 0, _ => exact h0 | 1, _ => exact h1 | 2, _ => exact h2)
    (fun j hj => by match j, hj with | 0, _ => exact l0 | 1, _ => exact l1 | 2, _ => exact l2)
    (by simp only [csN]; omega) (by simp only [csN]; omega)
  simpa [csN, crN] using this
end Go.Proofs.Ytnpibdjfafpegaa
namespace Go.Proofs.Ytnpibdjfafpegaa
open Go.RowKit Go.Lib
set_option maxRecDepth 100000 in
theorem key79 (d : Nat) (b4 b5 b6 b7 b8 b9 b10 b11 b12 b13 b14 b15 : Nat) (hb : ∀ n ∈ [b4, b5, b6, b7, b8, b9, b10, b11, b12, b13, b14, b15], n < 256) : Try.prog.keyLits (d + 2) 82 [.int .u8 (b4 : Int), .int .u8 (b5 : Int), .int .u8 (b6 : Int), .int .u8 (b7 : Int), .int .u8 (b8 : Int), .int .u8 (b9 : Int), .int .u8 (b10 : Int), .int .u8 (b11 : Int), .int .u8 (b12 : Int), .int .u8 (b13 : Int), .int .u8 (b14 : Int), .int .u8 (b15 : Int)] = some [.int .u8 (b4 : Int), .int .u8 (b5 : Int), .int .u8 (b6 : Int), .int .u8 (b7 : Int), .int .u8 (b8 : Int), .int .u8 (b9 : Int), .int .u8 (b10 : Int), .int .u8 (b11 : Int), .int .u8 (b12 : Int), .int .u8 (b13 : Int), .int .u8 (b14 : Int), .int .u8 (b15 : Int)] := by
  unfold Program.keyLits
  rw [Try.underlying82]
  have hc : Try.prog.cellsOf 5 = 1 := by kernel_rfl
  have hc2 : Try.prog.cellsOf 82 = 12 := by kernel_rfl
  simp only [List.mem_cons, List.not_mem_nil, or_false, forall_eq_or_imp, forall_eq] at hb
  obtain ⟨h4, h5, h6, h7, h8, h9, h10, h11, h12, h13, h14, h15⟩ := hb
  simp [hc, hc2, List.range_succ, key5 d b4 h4, key5 d b5 h5, key5 d b6 h6, key5 d b7 h7, key5 d b8 h8, key5 d b9 h9, key5 d b10 h10, key5 d b11 h11, key5 d b12 h12, key5 d b13 h13, key5 d b14 h14, key5 d b15 h15]
theorem key79t : Try.prog.keyTypeAt 2 82 = true := by kernel_rfl
theorem formed79 (b4 b5 b6 b7 b8 b9 b10 b11 b12 b13 b14 b15 : Nat) : (Value.agg #[.int .u8 (b4 : Int), .int .u8 (b5 : Int), .int .u8 (b6 : Int), .int .u8 (b7 : Int), .int .u8 (b8 : Int), .int .u8 (b9 : Int), .int .u8 (b10 : Int), .int .u8 (b11 : Int), .int .u8 (b12 : Int), .int .u8 (b13 : Int), .int .u8 (b14 : Int), .int .u8 (b15 : Int)]).formed Try.prog 82 = true := by kernel_rfl
theorem formed79z : (Value.agg #[.int .u8 0, .int .u8 0, .int .u8 0, .int .u8 0, .int .u8 0, .int .u8 0, .int .u8 0, .int .u8 0, .int .u8 0, .int .u8 0, .int .u8 0, .int .u8 0]).formed Try.prog 82 = true := by kernel_rfl
theorem key79z : Try.prog.keyLits 2 82 [.int .u8 0, .int .u8 0, .int .u8 0, .int .u8 0, .int .u8 0, .int .u8 0, .int .u8 0, .int .u8 0, .int .u8 0, .int .u8 0, .int .u8 0, .int .u8 0] = some [.int .u8 0, .int .u8 0, .int .u8 0, .int .u8 0, .int .u8 0, .int .u8 0, .int .u8 0, .int .u8 0, .int .u8 0, .int .u8 0, .int .u8 0, .int .u8 0] := by kernel_rfl
set_option maxRecDepth 100000 in
theorem eq79 (b4 b5 b6 b7 b8 b9 b10 b11 b12 b13 b14 b15 : Nat) (hb : ∀ n ∈ [b4, b5, b6, b7, b8, b9, b10, b11, b12, b13, b14, b15], n < 256) (w : World) :
    (Op.equalIn 10000 82 (.agg #[.int .u8 (b4 : Int), .int .u8 (b5 : Int), .int .u8 (b6 : Int), .int .u8 (b7 : Int), .int .u8 (b8 : Int), .int .u8 (b9 : Int), .int .u8 (b10 : Int), .int .u8 (b11 : Int), .int .u8 (b12 : Int), .int .u8 (b13 : Int), .int .u8 (b14 : Int), .int .u8 (b15 : Int)]) (.agg #[.int .u8 0, .int .u8 0, .int .u8 0, .int .u8 0, .int .u8 0, .int .u8 0, .int .u8 0, .int .u8 0, .int .u8 0, .int .u8 0, .int .u8 0, .int .u8 0])).run Try.prog w = .ok (decide ([b4, b5, b6, b7, b8, b9, b10, b11, b12, b13, b14, b15] = List.replicate 12 0)) w := by
  obtain ⟨r, hr, he⟩ := run_equalIn_deep (P := Try.prog) 9998 2 82 key79t w 2 2 _ _ _ _ (formed79 b4 b5 b6 b7 b8 b9 b10 b11 b12 b13 b14 b15) formed79z (key79 0 b4 b5 b6 b7 b8 b9 b10 b11 b12 b13 b14 b15 hb) key79z
  refine hr.trans ?_
  congr 1
  by_cases h : [b4, b5, b6, b7, b8, b9, b10, b11, b12, b13, b14, b15] = List.replicate 12 0
  · rw [decide_eq_true h]
    refine he.2 ?_
    simp only [List.replicate, List.cons.injEq, and_true] at h
    obtain ⟨rfl, rfl, rfl, rfl, rfl, rfl, rfl, rfl, rfl, rfl, rfl, rfl⟩ := h
    rfl
  · rw [decide_eq_false h]
    refine Bool.eq_false_iff.2 (fun q => h ?_)
    have q := he.1 q
    simp at q
    simp [List.replicate]
    omega
set_option maxRecDepth 100000 in
theorem sta79 (g : Nat) (W : World) : (Instr.arrayAt 82 (.slice (some ⟨g, 5, none⟩) 12 12)).run Try.prog W = .ok (.pointer (some ⟨g, 5, none⟩)) W := by rfl
set_option maxRecDepth 100000 in
set_option maxHeartbeats 1000000 in
theorem valid_any (v : Bool) (D : List Nat) (hl : D.length = 16) (hb : ∀ n ∈ D, n < 256) (w : World) :
    Calls Try.prog 26 #[adr v D] w fun e w' => e = .returned (.bool (vldA v D)) ∧ Below w.heap.size w w' := by
  obtain ⟨b0, b1, b2, b3, b4, b5, b6, b7, b8, b9, b10, b11, b12, b13, b14, b15, rfl⟩ := list16 D hl
  have ha : adr v [b0, b1, b2, b3, b4, b5, b6, b7, b8, b9, b10, b11, b12, b13, b14, b15] = .agg #[.bool v, .int .u8 (b0 : Int), .int .u8 (b1 : Int), .int .u8 (b2 : Int), .int .u8 (b3 : Int), .int .u8 (b4 : Int), .int .u8 (b5 : Int), .int .u8 (b6 : Int), .int .u8 (b7 : Int), .int .u8 (b8 : Int), .int .u8 (b9 : Int), .int .u8 (b10 : Int), .int .u8 (b11 : Int), .int .u8 (b12 : Int), .int .u8 (b13 : Int), .int .u8 (b14 : Int), .int .u8 (b15 : Int)] := rfl
  rw [ha]
  have hst := sta79 w.heap.size
  cases v with
  | true =>
    rw [show vldA true [b0, b1, b2, b3, b4, b5, b6, b7, b8, b9, b10, b11, b12, b13, b14, b15] = true from rfl]
    clear hb ha hl
    go_enter Try.func26, Try.ntmps26
    go_wp2_with fail
    go_ret
    exact ⟨rfl, (Below.refl _ w).alloc (Nat.le_refl _) _⟩
  | false =>
    have hv : vldA false [b0, b1, b2, b3, b4, b5, b6, b7, b8, b9, b10, b11, b12, b13, b14, b15] = decide ([b4, b5, b6, b7, b8, b9, b10, b11, b12, b13, b14, b15] = List.replicate 12 0) := by
      rw [Bool.eq_iff_iff, decide_eq_true_iff]
      constructor
      · intro h
        have h := (vldA_spec.1 h).resolve_left (by decide)
        have q := fun i h1 h2 => h i h1 h2
        simp only [List.replicate, List.cons.injEq, and_true]
        exact ⟨q 4 (by omega) (by omega), q 5 (by omega) (by omega), q 6 (by omega) (by omega), q 7 (by omega) (by omega), q 8 (by omega) (by omega), q 9 (by omega) (by omega), q 10 (by omega) (by omega), q 11 (by omega) (by omega), q 12 (by omega) (by omega), q 13 (by omega) (by omega), q 14 (by omega) (by omega), q 15 (by omega) (by omega)⟩
      · intro h
        simp only [List.replicate, List.cons.injEq, and_true] at h
        obtain ⟨rfl, rfl, rfl, rfl, rfl, rfl, rfl, rfl, rfl, rfl, rfl, rfl⟩ := h
        exact vldA_spec.2 (.inr fun i h1 h2 => by
          have : i = 4 ∨ i = 5 ∨ i = 6 ∨ i = 7 ∨ i = 8 ∨ i = 9 ∨ i = 10 ∨ i = 11 ∨ i = 12 ∨ i = 13 ∨ i = 14 ∨ i = 15 := by omega
          rcases this with rfl | rfl | rfl | rfl | rfl | rfl | rfl | rfl | rfl | rfl | rfl | rfl <;> rfl)
    rw [hv]
    have he := eq79 b4 b5 b6 b7 b8 b9 b10 b11 b12 b13 b14 b15 (fun n hn => hb n (.tail _ (.tail _ (.tail _ (.tail _ hn)))))
    generalize decide ([b4, b5, b6, b7, b8, b9, b10, b11, b12, b13, b14, b15] = List.replicate 12 0) = r at *
    have HE := Lib.hid he
    clear hb ha hl hv he
    go_enter Try.func26, Try.ntmps26
    have he := HE.out
    clear HE
    go_wp2_with fail
    go_ret
    exact ⟨rfl, (Below.refl _ w).alloc (Nat.le_refl _) _⟩
end Go.Proofs.Ytnpibdjfafpegaa
namespace Go.Proofs.Ytnpibdjfafpegaa
open Go.RowKit
theorem run_app_none (w : World) (ty g n cap : Nat) (hc : n ≤ cap) : (Builtin.append_ #[22, 3] ty #[.slice (some ⟨g, 0, none⟩) n cap, .int .i64 ((0 : Nat) : Int)]).run Try.prog w = .ok (.slice (some ⟨g, 0, none⟩) n cap) w := by
  obtain ⟨i, hi, hz, -, hby⟩ := info_parts Try.info5
  have ht : Try.prog.underlying 22 = some (.slice 5) := Try.underlying22
  have htn : Try.prog.underlying 3 = some (.int .i64) := Try.underlying3
  have hw : IntKind.i64.wrap (0 : Int) = 0 := by decide
  simp [Builtin.append_, run_underlying ht, run_underlying htn, sizeOf, typeInfo, zeroValue, hi, hz, hby, asInt, asIntOf, hw, hc, storeCells]
theorem wpList_zerosN {w : World} {ops : Array Oper} {rest : List Oper} {o : Oper} {a : Act} {Q : Exit → Act → World → Prop} (hgd : o.guard = none) (s x : Operand) (k : Nat)
    (ho : o.op = .call { callee := .builtin .append, args := #[s, x], argTypes := #[22, 3] }) (hx : a.eval x = .int .i64 (k : Int))
    (base g n cap : Nat) (zs : List Nat) (hs : a.eval s = .slice (some ⟨g, 0, none⟩) n cap) (hown : w.ownsRow base 5 1 (.slice (some ⟨g, 0, none⟩) n cap) n (nus .u8 zs)) (hn : n + k ≤ 1000000) (hbase : base ≤ w.heap.size)
    (h : ∀ v' w', w'.ownsRow base 5 1 v' (n + k) (nus .u8 (zs ++ List.replicate k 0)) → w.grownBy w' (some g) → wpList Try.prog ops Q rest (a.put o.dst v') w') :
    wpList Try.prog ops Q (o :: rest) a w := by
  by_cases h0 : k = 0
  · subst h0
    exact Lib.wpList_append_run w hgd s _ 22 3 ho _ _ hs hx _ _ (run_app_none w o.type g n cap (by obtain ⟨-, ⟨h1, -⟩ | ⟨g', c', cur, hv, -, -, h2, -⟩⟩ := hown; cases h1; cases hv; exact h2)) (h _ _ (by simpa using hown) (World.grownBy.refl _ _))
  · obtain ⟨v', w', hr, h1, h2⟩ := run_app_zeros w o.type base g n cap k _ hown (by omega) hn hbase
    exact Lib.wpList_append_run w hgd s _ 22 3 ho _ _ hs hx v' w' hr (h v' w' (by simpa [nus] using h1) h2)
end Go.Proofs.Ytnpibdjfafpegaa
