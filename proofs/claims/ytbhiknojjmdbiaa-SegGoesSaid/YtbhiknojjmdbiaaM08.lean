/- Texts that the walks of this seat lean on, put together: each has its own remark below. -/
import Derived.Handy
import Derived.BigQuiet
import Derived.Deep.QuietTactic
import Derived.LoopTactic
import Derived.Test.YtbhiknojjmdbiaaM01
import Derived.Test.YtbhiknojjmdbiaaM02
import Derived.Test.YtbhiknojjmdbiaaM03
import Derived.Test.YtbhiknojjmdbiaaM07

/- copy into a part of a row of the call's own. -/
namespace Go.Proofs.Ytbhiknojjmdbiaa
open Go.RowKit

theorem splice_nus (k : IntKind) (zs ts : List Nat) (off : Nat) : splice (nus k zs) off (nus k ts) = nus k (ov zs ts off) := by
  unfold splice ov
  rw [nus_length]
  simp [nus, List.map_take, List.map_drop]
theorem splice_take (cur cs : List Value) (off n : Nat) (h : off + cs.length ≤ n) (hn : n ≤ cur.length) : (splice cur off cs).take n = splice (cur.take n) off cs := by
  have hl : (cur.take off).length = off := by simp; omega
  unfold splice
  rw [List.take_append, List.take_append, List.take_take, List.take_take, Nat.min_comm n off, List.drop_take]
  rw [hl, List.take_of_length_le (l := cs) (by omega), show n - off - cs.length = n - (off + cs.length) from by omega]
theorem copy_into {P : Program} {w : World} {ops : Array Oper} {rest : List Oper} {o : Oper} {a : Act} {Q : Exit → Act → World → Prop} (hgd : o.guard = none) (d s : Operand) (dT sT : TypeId)
    (ho : o.op = .call { callee := .builtin .copy, args := #[d, s], argTypes := #[dT, sT] }) (elem : TypeId) (hu : P.underlying dT = some (.slice elem)) (hsz : (P.info? elem).map (·.size) = some 1)
    (g off n cap base dLen dCap : Nat) (e : TypeId) (k : IntKind) (zs ts : List Nat) (sp : Option Addr) (sLen sCap : Nat) (hd : a.eval d = .slice (some ⟨g, off, none⟩) dLen dCap) (hs : a.eval s = .slice sp sLen sCap)
    (hown : w.ownsRow base e 1 (.slice (some ⟨g, 0, none⟩) n cap) n (nus k zs)) (hr : Rd w (.slice sp sLen sCap) (nus k ts)) (hfit : off + sLen ≤ n) (hdl : sLen ≤ dLen)
    (h : ∀ w', Hid (w'.ownsRow base e 1 (.slice (some ⟨g, 0, none⟩) n cap) n (nus k (ov zs ts off))) → w.grownBy w' (some g) → wpList P ops Q rest (a.put o.dst (goInt sLen)) w') :
    wpList P ops Q (o :: rest) a w := by
  have hr0 := hr
  obtain ⟨a', c', ee, h1, h2, h3⟩ := hr0
  simp only [Value.slice.injEq, nus_length] at ee
  obtain ⟨rfl, rfl, rfl⟩ := ee
  obtain ⟨hxl, ⟨h0, -⟩ | ⟨g', cap', cur, hv, hb, hh, hnc, hcm, hcs, ht⟩⟩ := hown
  · cases h0
  simp only [Value.slice.injEq, Option.some.injEq, Addr.mk.injEq, and_true, true_and] at hv
  obtain ⟨rfl, rfl⟩ := hv
  simp only [Nat.mul_one] at hxl hcs ht
  have hcl : cur.toList.length = cap := by simpa using hcs
  refine copy_grown hgd d s dT sT ho elem hu hsz _ sp dLen dCap ts.length sCap hd hs g off cur.toList e (by simpa using hh) (nus k ts) (by rw [nus_length]; exact (Nat.min_eq_left hdl).symm) ?_ (by rw [nus_length, hcl]; omega) (oneCell_nus _ _) ?_
  · intro h0
    obtain ⟨ad, he, hc⟩ := hr.src h0
    exact ⟨rfl, ad, he, hc⟩
  · intro w' hg hgr
    have hgo : goInt (nus k ts).length = goInt ts.length := by rw [nus_length]
    rw [hgo]
    refine h w' ⟨?_, .inr ⟨g, cap, (splice cur.toList off (nus k ts)).toArray, rfl, hb, hg.out, hnc, hcm, ?_, ?_⟩⟩ hgr
    · rw [nus_length] at hxl ⊢
      rw [ov_length _ _ _ (by omega), hxl, Nat.mul_one]
    · rw [Nat.mul_one, List.size_toArray]
      unfold splice
      simp only [List.length_append, List.length_take, List.length_drop, nus_length, hcl]
      omega
    · rw [Nat.mul_one, splice_take _ _ _ _ (by rw [nus_length]; exact hfit) (by omega), ht, splice_nus]
end Go.Proofs.Ytbhiknojjmdbiaa

/- copy into a part of a row of the call's own, where an operation alone is looked at. Nothing of the program. -/
namespace Go.Proofs.Ytbhiknojjmdbiaa
open Go.RowKit

theorem wp_copy_into {P : Program} {w : World} {K : Act → World → Prop} {Q : Exit → Act → World → Prop} {o : Oper} {a : Act} (d s : Operand) (dT sT : TypeId)
    (ho : o.op = .call { callee := .builtin .copy, args := #[d, s], argTypes := #[dT, sT] }) (elem : TypeId) (hu : P.underlying dT = some (.slice elem)) (hsz : (P.info? elem).map (·.size) = some 1)
    (g off n cap base dLen dCap : Nat) (e : TypeId) (k : IntKind) (zs ts : List Nat) (sp : Option Addr) (sLen sCap : Nat) (hd : a.eval d = .slice (some ⟨g, off, none⟩) dLen dCap) (hs : a.eval s = .slice sp sLen sCap)
    (hown : w.ownsRow base e 1 (.slice (some ⟨g, 0, none⟩) n cap) n (nus k zs)) (hr : Rd w (.slice sp sLen sCap) (nus k ts)) (hfit : off + sLen ≤ n) (hdl : sLen ≤ dLen) (h0 : 0 < sLen)
    (h : ∀ w', Hid (w'.ownsRow base e 1 (.slice (some ⟨g, 0, none⟩) n cap) n (nus k (ov zs ts off))) → w.grownBy w' (some g) → K (a.put o.dst (goInt sLen)) w') :
    o.wp P a w K Q := by
  have hr0 := hr
  obtain ⟨a', c', ee, h1, h2, h3⟩ := hr0
  simp only [Value.slice.injEq, nus_length] at ee
  obtain ⟨rfl, rfl, rfl⟩ := ee
  obtain ⟨hxl, ⟨h0', -⟩ | ⟨g', cap', cur, hv, hb, hh, hnc, hcm, hcs, ht⟩⟩ := hown
  · cases h0'
  simp only [Value.slice.injEq, Option.some.injEq, Addr.mk.injEq, and_true, true_and] at hv
  obtain ⟨rfl, rfl⟩ := hv
  simp only [Nat.mul_one] at hxl hcs ht
  have hcl : cur.toList.length = cap := by simpa using hcs
  obtain ⟨ad, rfl, hc⟩ := hr.src (by rw [nus_length]; exact h0)
  have hrun := run_copy_row (P := P) w dT sT o.type elem g off dLen dCap ad ts.length sCap cur e (nus k ts) hu hsz hh (by rw [nus_length]; exact (Nat.min_eq_left hdl).symm) hc (by rw [nus_length, hcs]; omega) (oneCell_nus _ _)
  unfold Oper.wp
  simp [execOp, ho, resolve, invoke, builtin, hd, hs, hrun, Result.andThen]
  rw [nus_length]
  refine h _ ⟨?_, .inr ⟨g, cap, (splice cur.toList off (nus k ts)).toArray, rfl, hb, ?_, hnc, hcm, ?_, ?_⟩⟩ ⟨rfl, rfl, rfl, by simp [World.setRow], fun k _ hk => setRow_other w g k _ (fun e => hk (by rw [e]))⟩
  · rw [nus_length] at hxl ⊢
    rw [ov_length _ _ _ (by omega), hxl, Nat.mul_one]
  · simpa [splice, nus_length] using setRow_heap w g _ _ e _ hh
  · rw [Nat.mul_one, List.size_toArray]
    unfold splice
    simp only [List.length_append, List.length_take, List.length_drop, nus_length, hcl]
    omega
  · rw [Nat.mul_one, splice_take _ _ _ _ (by rw [nus_length]; exact hfit) (by omega), ht, splice_nus]
end Go.Proofs.Ytbhiknojjmdbiaa

/- The contract of octet.Put at 16 binary digits, into a row of the call that called it. -/
namespace Go.Proofs.Ytbhiknojjmdbiaa
open Go.RowKit

set_option maxHeartbeats 400000 in
theorem put16_yes (g n cap base : Nat) (k v : Nat) (zs : List Nat) (w : World) (hown : w.ownsRow base 5 1 (.slice (some ⟨g, 0, none⟩) n cap) n (nus .u8 zs)) (hn : n ≤ maxLen) (hk : k + 2 ≤ n) (hv : v < 65536) :
    Calls Try.prog 25 #[.slice (some ⟨g, 0, none⟩) n cap, .int .i64 k, .int .u16 v] w fun e w' => e = .returned (.bool true) ∧ w'.ownsRow base 5 1 (.slice (some ⟨g, 0, none⟩) n cap) n (nus .u8 (putRow zs k 2 v 2)) ∧ w.grownBy w' (some g) := by
  have hzl : zs.length = n := by have := hown.1; simpa [nus_length] using this
  unfold maxLen at hn
  have hfit : decide ((k : Int) ≤ (n : Int) - 2) = true := by simp; omega
  have HO := Lib.hid hown
  have HZ := Lib.hid hzl
  clear hown hzl
  go_enter Try.func25, Try.ntmps25
  go_wp2_with (first
    | (go_at_call 43; refine (fits16_pos _ _ _ _ _ (by unfold maxLen; omega) (by omega)).mono ?_; rintro e w' ⟨rfl, rfl⟩; rw [hfit])
    | (go_at_call 44; refine (size16_any _).mono ?_; rintro e w' ⟨rfl, rfl⟩))
  go_loopw [7, 8] (fun r i wr => ∃ j : Nat, j ≤ 2 ∧ r = .int .u64 ((v / 256 ^ j : Nat) : Int) ∧ i = .int .i64 ((k : Int) + 2 - 1 - j) ∧ wr.ownsRow base 5 1 (.slice (some ⟨g, 0, none⟩) n cap) n (nus .u8 (putRow zs k 2 v j)) ∧ w.grownBy wr (some g)) (fun _ i _ => (intOf i + 1 - k).toNat)
  case atStart => exact ⟨0, by omega, by simp, by simp, by rw [putRow_zero]; exact HO.out, World.grownBy.refl _ _⟩
  case round =>
    obtain ⟨j, hj, rfl, rfl, hown, hgr⟩ := hrel
    by_cases h1 : j < 2
    · obtain ⟨r, hr⟩ : ∃ r, r = v / 256 ^ j := ⟨_, rfl⟩
      obtain ⟨p, hp⟩ : ∃ p : Nat, (k : Int) + 2 - 1 - j = p := ⟨k + 2 - 1 - j, by omega⟩
      have hpk : k ≤ p ∧ p < k + 2 := by omega
      have hrv : r < 18446744073709551616 := by have := Nat.div_le_self v (256 ^ j); omega
      have hcell := hown.cellAt p (by omega)
      rw [nus_get _ _ _ (by rw [putRow_length _ _ _ _ _ (by rw [HZ.out]; exact hk) hj, HZ.out]; omega)] at hcell
      have hfz := hown.frozenAt p
      have hst := hown.stored p (.int .u8 ((r % 256 : Nat) : Int))
      have hstep := putRow_step zs k 2 v j (by rw [HZ.out]; exact hk) h1
      rw [← hr, show k + 2 - 1 - j = p from by omega] at hstep
      rw [nus_set, hstep] at hst
      have hr2 : r / 256 = v / 256 ^ (j + 1) := by rw [hr, Nat.div_div_eq_div_mul, Nat.pow_succ]
      rw [← hr, hp]
      obtain ⟨x, hx⟩ : ∃ x, x = (putRow zs k 2 v j).getD p 0 := ⟨_, rfl⟩
      rw [← hx] at hcell
      have HS := Lib.hid hst
      have HP := Lib.hid hp
      have HR := Lib.hid hr2
      clear hown hst hstep hp hr hr2 hx
      go_wp2
      go_roundw
      case rel => exact ⟨j + 1, by omega, by rw [← HR.out]; go_num, by have := HP.out; go_num, HS.out.1, grownBy_trans hgr HS.out.2⟩
      case measure => have := HP.out; simp [intOf]; omega
    · obtain rfl : j = 2 := by omega
      go_wp2
      go_ret
      exact ⟨rfl, hown, hgr⟩
set_option maxHeartbeats 400000 in
theorem put16_no (a : Option Addr) (len cap : Nat) (at0 v : Int) (w : World) (hl : len ≤ maxLen) (h : at0 < 0 ∨ (len : Int) < at0 + 2) :
    Calls Try.prog 25 #[.slice a len cap, .int .i64 at0, .int .u16 v] w fun e w' => e = .returned (.bool false) ∧ w = w' := by
  by_cases h0 : at0 < 0
  · go_enter Try.func25, Try.ntmps25
    go_wp2_with (go_at_call 43; refine (fits16_neg _ _ _ _ _ (by omega)).mono ?_; rintro e w' ⟨rfl, rfl⟩)
    go_ret
    exact ⟨rfl, rfl⟩
  · have hfit : decide (at0 ≤ (len : Int) - 2) = false := by simp; omega
    go_enter Try.func25, Try.ntmps25
    go_wp2_with (go_at_call 43; refine (fits16_pos _ _ _ _ _ hl (by omega)).mono ?_; rintro e w' ⟨rfl, rfl⟩; rw [hfit])
    go_ret
    exact ⟨rfl, rfl⟩
end Go.Proofs.Ytbhiknojjmdbiaa

/- ipfour.Make. -/
namespace Go.Proofs.Ytbhiknojjmdbiaa
open Go.RowKit

theorem own_in {w : World} {base n g cap : Nat} {e : TypeId} {xs : List Value} (h : w.ownsRow base e 1 (.slice (some ⟨g, 0, none⟩) n cap) n xs) : g < w.heap.size := by
  rcases h.2 with ⟨h1, -⟩ | ⟨g', c', cur, hv, -, h2, -⟩
  · cases h1
  · cases hv
    exact (Array.getElem?_eq_some_iff.1 h2).1
/-- A header of twenty bytes, its checksum 0. -/
def mk0 (s d : List Nat) (p n : Nat) : List Nat := [69, 0] ++ bg 2 (20 + n) ++ [0, 0, 64, 0, 64, p, 0, 0] ++ s ++ d
/-- With its checksum. -/
def mk4 (s d : List Nat) (p n : Nat) : List Nat := ov (mk0 s d p n) (bg 2 (ck (mk0 s d p n))) 10
/-- Whether a header is made. -/
def mk4Ok (six1 six2 : Bool) (n : Int) : Prop := six1 = false ∧ six2 = false ∧ 0 ≤ n ∧ n ≤ 65515
theorem mk0_steps (s d : List Nat) (hs : s.length = 4) (hd : d.length = 4) (p n : Nat) :
    ov (ov (((putRow (putRow ((List.replicate 20 0).set 0 69) 2 2 (20 + n) 2) 6 2 16384 2).set 8 64).set 9 p) s 12) d 16 = mk0 s d p n := by
  obtain ⟨s0, s1, s2, s3, rfl⟩ : ∃ s0 s1 s2 s3, s = [s0, s1, s2, s3] := by
    match s, hs with
    | [a, b, c, d], _ => exact ⟨a, b, c, d, rfl⟩
  obtain ⟨d0, d1, d2, d3, rfl⟩ : ∃ d0 d1 d2 d3, d = [d0, d1, d2, d3] := by
    match d, hd with
    | [a, b, c, d], _ => exact ⟨a, b, c, d, rfl⟩
  rfl
theorem mk0_length (s d : List Nat) (hs : s.length = 4) (hd : d.length = 4) (p n : Nat) : (mk0 s d p n).length = 20 := by simp [mk0, bg_length, hs, hd]
theorem mk0_lt (s d : List Nat) (p n : Nat) (hs : ∀ c ∈ s, c < 256) (hd : ∀ c ∈ d, c < 256) (hp : p < 256) : ∀ c ∈ mk0 s d p n, c < 256 := by
  intro c hc
  unfold mk0 at hc
  simp only [List.mem_append] at hc
  rcases hc with (((h | h) | h) | h) | h
  · simp at h; omega
  · exact bg_lt 2 _ c h
  · simp at h; omega
  · exact hs c h
  · exact hd c h
end Go.Proofs.Ytbhiknojjmdbiaa

/- bazaarref1.put16 into a row of the call's own. -/
namespace Go.Proofs.Ytbhiknojjmdbiaa
open Go.RowKit
theorem hi_i64 (v : Nat) (h : v < 65536) : IntKind.u8.wrap ((v : Int) / 256) = ((v / 256 : Nat) : Int) := by rw [IntKind.wrap_u8]; omega
theorem lo_i64 (v : Nat) : IntKind.u8.wrap (v : Int) = ((v % 256 : Nat) : Int) := by rw [IntKind.wrap_u8]; omega

set_option maxHeartbeats 800000 in
theorem rput16_any (g n cap base k v : Nat) (zs : List Nat) (w : World) (hown : w.ownsRow base 5 1 (.slice (some ⟨g, 0, none⟩) n cap) n (nus .u8 zs)) (hn : n ≤ maxLen) (hk : k + 2 ≤ n) (hv : v < 65536) :
    Calls Try.prog 30 #[.slice (some ⟨g, 0, none⟩) n cap, .int .i64 (k : Int), .int .i64 (v : Int)] w fun e w' => e = .returned (.tuple #[]) ∧ w'.ownsRow base 5 1 (.slice (some ⟨g, 0, none⟩) n cap) n (nus .u8 ((zs.set k (v / 256)).set (k + 1) (v % 256))) ∧ w.grownBy w' (some g) := by
  have hzl : zs.length = n := by have := hown.1; simpa [nus_length] using this
  unfold maxLen at hn
  have hcell := hown.cellAt k (by omega)
  have hcel2 := hown.cellAt (k + 1) (by omega)
  rw [nus_get _ _ _ (by omega)] at hcell hcel2
  have hfz := hown.frozenAt k
  have hfz2 := hown.frozenAt (k + 1)
  have e1 := hi_i64 v hv
  have e2 := lo_i64 v
  have hst := hown.stored k (.int .u8 ((v / 256 : Nat) : Int))
  rw [nus_set] at hst
  have hst2 := hst.1.stored (k + 1) (.int .u8 ((v % 256 : Nat) : Int))
  rw [nus_set] at hst2
  have HS := Lib.hid hst
  have HS2 := Lib.hid hst2
  clear hown hst hst2
  go_enter Try.func30, Try.ntmps30
  go_wp2
  refine bodyPost_end (results_none rfl _ _ _) rfl ?_
  exact ⟨rfl, HS2.out.1, grownBy_trans HS.out.2 HS2.out.2⟩
end Go.Proofs.Ytbhiknojjmdbiaa

/- bazaarref1.FourMake. -/
namespace Go.Proofs.Ytbhiknojjmdbiaa
open Go.RowKit

/-- The header, so many bytes of each address written. -/
def rowj (P S D : List Nat) (j : Nat) : List Nat := (List.range 20).map fun i => if 12 ≤ i ∧ i < 12 + j then S.getD (i - 12) 0 else if 16 ≤ i ∧ i < 16 + j then D.getD (i - 16) 0 else P.getD i 0
theorem rowj_length (P S D : List Nat) (j : Nat) : (rowj P S D j).length = 20 := by simp [rowj]
theorem rowj_get (P S D : List Nat) (j i : Nat) (h : i < 20) : (rowj P S D j).getD i 0 = if 12 ≤ i ∧ i < 12 + j then S.getD (i - 12) 0 else if 16 ≤ i ∧ i < 16 + j then D.getD (i - 16) 0 else P.getD i 0 := by
  simp [rowj, List.getD_eq_getElem?_getD, h]
theorem rowj_zero (P S D : List Nat) (h : P.length = 20) : rowj P S D 0 = P := by
  refine ext_getD _ _ 0 (by rw [rowj_length, h]) fun i hi => ?_
  rw [rowj_length] at hi
  rw [rowj_get P S D 0 i hi, if_neg (by omega), if_neg (by omega)]
theorem set_get (l : List Nat) (k i v : Nat) (h : i < l.length) : (l.set k v).getD i 0 = if k = i then v else l.getD i 0 := by
  simp only [List.getD_eq_getElem?_getD, List.getElem?_set]
  by_cases e : k = i
  · subst e
    rw [if_pos rfl, if_pos rfl, if_pos h]; rfl
  · rw [if_neg e, if_neg e]
theorem rowj_step (P S D : List Nat) (j : Nat) (h : j < 4) : ((rowj P S D j).set (12 + j) (S.getD j 0)).set (16 + j) (D.getD j 0) = rowj P S D (j + 1) := by
  refine ext_getD _ _ 0 (by simp [rowj_length]) fun i hi => ?_
  have hi : i < 20 := by simpa [rowj_length] using hi
  rw [set_get _ _ _ _ (by simp [rowj_length]; exact hi), set_get _ _ _ _ (by simp [rowj_length]; exact hi), rowj_get P S D j i hi, rowj_get P S D (j + 1) i hi]
  repeat' split
  all_goals first
    | rfl
    | (exfalso; omega)
    | (congr 1; omega)
theorem take4 (l : List Nat) (h : l.length = 16) : ∃ a b c d, l.take 4 = [a, b, c, d] ∧ l.getD 0 0 = a ∧ l.getD 1 0 = b ∧ l.getD 2 0 = c ∧ l.getD 3 0 = d := by
  obtain ⟨b0, b1, b2, b3, b4, b5, b6, b7, b8, b9, b10, b11, b12, b13, b14, b15, rfl⟩ := list16 l h
  exact ⟨b0, b1, b2, b3, rfl, rfl, rfl, rfl, rfl⟩
theorem rowj_all (sb db : List Nat) (p n : Nat) (h1 : sb.length = 16) (h2 : db.length = 16) (hn : n ≤ 65515) :
    rowj ((((((List.replicate 20 0).set 0 69).set 2 ((20 + n) / 256)).set (2 + 1) ((20 + n) % 256)).set 6 64).set 8 64 |>.set 9 p) sb db 4 = mk0 (sb.take 4) (db.take 4) p n := by
  obtain ⟨s0, s1, s2, s3, e1, a0, a1, a2, a3⟩ := take4 sb h1
  obtain ⟨d0, d1, d2, d3, e2, b0, b1, b2, b3⟩ := take4 db h2
  have e : (20 + n) / 256 % 256 = (20 + n) / 256 := by omega
  rw [e1, e2]
  unfold rowj
  simp [List.range_succ, mk0, bg, e, ← a0, ← a1, ← a2, ← a3, ← b0, ← b1, ← b2, ← b3]

set_option maxHeartbeats 1000000 in
theorem r4make_no (six1 six2 : Bool) (sb db : List Nat) (p : Int) (n : Int) (w : World) (h : ¬ mk4Ok six1 six2 n) :
    Calls Try.prog 53 #[adr six1 sb, adr six2 db, .int .u8 p, .int .i64 n] w fun e w' => e = .returned (.tuple #[.slice none 0 0, .bool false]) ∧ Below w.heap.size w w' := by
  unfold adr
  have e1 : (cellsA six1 sb)[0]? = some (.bool six1) := cellsA_head _ _
  have e2 : (cellsA six2 db)[0]? = some (.bool six2) := cellsA_head _ _
  generalize cellsA six1 sb = c1 at *
  generalize cellsA six2 db = c2 at *
  have B1 := (Below.refl w.heap.size w).alloc (Nat.le_refl _) (.cells c1 26)
  have HB := Lib.hid (B1.alloc B1.size (.cells c2 26))
  have hc1 := (((Blk.new w 26 c1).alloc (.cells c2 26)).cell 0).trans e1
  have hc2 := ((Blk.new (w.alloc (.cells c1 26)) 26 c2).cell 0).trans e2
  rw [World.size_alloc] at hc2
  unfold mk4Ok at h
  clear e1 e2 B1
  go_enter Try.func53, Try.ntmps53
  cases six1 with
  | true =>
    clear h
    go_wp2
    go_ret2
    exact ⟨rfl, HB.out⟩
  | false =>
    cases six2 with
    | true =>
      clear h
      go_wp2
      go_ret2
      exact ⟨rfl, HB.out⟩
    | false =>
      by_cases h0 : n < 0
      · clear h
        go_wp2
        go_ret2
        exact ⟨rfl, HB.out⟩
      · have h5 : 65515 < n := by
          rcases Int.lt_or_le 65515 n with h' | h'
          · exact h'
          · exact absurd ⟨rfl, rfl, by omega, h'⟩ h
        clear h
        go_wp2
        go_ret2
        exact ⟨rfl, HB.out⟩

set_option maxRecDepth 100000 in
set_option maxHeartbeats 4000000 in
theorem r4make_yes (sb db : List Nat) (p n : Nat) (w : World) (hl1 : sb.length = 16) (hl2 : db.length = 16) (hb1 : ∀ c ∈ sb, c < 256) (hb2 : ∀ c ∈ db, c < 256) (hp : p < 256) (hn : n ≤ 65515) :
    Calls Try.prog 53 #[adr false sb, adr false db, .int .u8 (p : Int), .int .i64 (n : Int)] w fun e w' => ∃ x, e = .returned (.tuple #[x, .bool true]) ∧ w'.ownsRow w.heap.size 5 1 x 20 (nus .u8 (mk4 (sb.take 4) (db.take 4) p n)) ∧ Below w.heap.size w w' := by
  have l1 : (sb.take 4).length = 4 := by simp [hl1]
  have l2 : (db.take 4).length = 4 := by simp [hl2]
  unfold adr
  have e1 : (cellsA false sb)[0]? = some (.bool false) := cellsA_head _ _
  have e2 : (cellsA false db)[0]? = some (.bool false) := cellsA_head _ _
  have G1 := Lib.hid (fun k (hk : k < 4) => cellsA_get false sb k (by omega))
  have G2 := Lib.hid (fun k (hk : k < 4) => cellsA_get false db k (by omega))
  have HM := Lib.hid (rowj_all sb db p n hl1 hl2 hn)
  have HML := Lib.hid (mk0_length (sb.take 4) (db.take 4) l1 l2 p n)
  have HMB := Lib.hid (mk0_lt (sb.take 4) (db.take 4) p n (fun c hc => hb1 c (List.mem_of_mem_take hc)) (fun c hc => hb2 c (List.mem_of_mem_take hc)) hp)
  have hck := ck_le (mk0 (sb.take 4) (db.take 4) p n)
  have hmd : ∀ M : List Nat, M.length = 20 → ck M < 65536 → (M.set 10 (ck M / 256)).set (10 + 1) (ck M % 256) = ov M (bg 2 (ck M)) 10 := fun M hM hc => by
    refine ext_getD _ _ 0 (by simp [ov_length, bg_length, hM]) fun i hi => ?_
    have hi : i < 20 := by simpa [hM] using hi
    rw [set_get _ _ _ _ (by simp [hM]; exact hi), set_get _ _ _ _ (by rw [hM]; exact hi), ov_get _ _ _ _ (by rw [bg_length, hM]; omega), bg_length]
    have e : ck M / 256 % 256 = ck M / 256 := by omega
    by_cases h1 : i = 10
    · subst h1; simp [bg, e]
    · by_cases h2 : i = 11
      · subst h2; simp [bg]
      · rw [if_neg (by omega), if_neg (by omega), if_neg (by omega)]
  have HR : Hid (mk4 (sb.take 4) (db.take 4) p n = ((mk0 (sb.take 4) (db.take 4) p n).set 10 (ck (mk0 (sb.take 4) (db.take 4) p n) / 256)).set (10 + 1) (ck (mk0 (sb.take 4) (db.take 4) p n) % 256)) := by
    show _ = _
    rw [hmd _ HML.out (by omega)]; rfl
  have HD1 := Lib.hid (getD_lt sb hb1)
  have HD2 := Lib.hid (getD_lt db hb2)
  generalize mk4 (sb.take 4) (db.take 4) p n = RES at *
  generalize mk0 (sb.take 4) (db.take 4) p n = M at *
  generalize cellsA false sb = c1 at *
  generalize cellsA false db = c2 at *
  have B1 := (Below.refl w.heap.size w).alloc (Nat.le_refl _) (.cells c1 26)
  have KA := B1.alloc B1.size (.cells c2 26)
  have n1 := (Blk.new w 26 c1).alloc (.cells c2 26)
  have n2 := Blk.new (w.alloc (.cells c1 26)) 26 c2
  rw [World.size_alloc] at n2
  have hc1 := (n1.cell 0).trans e1
  have hc2 := (n2.cell 0).trans e2
  have N1 := Lib.hid n1
  have N2 := Lib.hid n2
  have K0 := Lib.hid KA
  have hbase := K0.out.size
  obtain ⟨i0, hi, hz0, hz1, hz2⟩ := info_parts Try.info5
  have hnw : (20 + (n : Int)) = ((20 + n : Nat) : Int) := by omega
  clear e1 e2 l1 l2 hl1 hl2 hb1 hb2 B1 KA n1 n2 hmd hnw
  go_enter Try.func53, Try.ntmps53
  go_wp2_with (at_make; refine wpList_make_full _ rfl _ _ 22 rfl w.heap.size 5 i0 (.int .u8 0) 1 Try.underlying22 hi hz0 hz1 .i64 .i64 _ _ 20 rfl rfl ?c1 ?c2 ?c3 ?c4 hbase ?_)
  case c1 => omega
  case c2 => omega
  case c3 => rw [hz2]; omega
  case c4 => unfold maxLen; omega
  intro w1 o1 g1
  rw [toList_madeCells_one] at o1
  have O1 := Lib.hid (show w1.ownsRow w.heap.size 5 1 _ 20 (nus .u8 (List.replicate 20 0)) from o1)
  have K1 := Lib.hid (K0.out.grown g1 hbase (fun k hk => by cases hk))
  obtain ⟨g, hg⟩ : ∃ g, g = w.heap.size + 1 + 1 := ⟨_, rfl⟩
  rw [← hg] at O1 ⊢
  have hgl : w.heap.size ≤ g := by omega
  have hg1 : w.heap.size < g := by omega
  have hg2 : w.heap.size + 1 < g := by omega
  have N1 := Lib.hid (show Blk w1 w.heap.size 26 c1 from (g1.block _ N1.out.lt (by simp)).trans N1.out)
  have N2 := Lib.hid (show Blk w1 (w.heap.size + 1) 26 c2 from (g1.block _ N2.out.lt (by simp)).trans N2.out)
  have hgw : g ≤ w1.heap.size := Nat.le_of_lt (own_in O1.out)
  clear o1 g1 hi hz0 hz1 hz2 hg hc1 hc2
  have h20m : 20 ≤ maxLen := by simp [maxLen]
  have c0 := O1.out.cellAt 0 (by omega)
  rw [nus_get _ _ _ (by simp)] at c0
  have f0 := O1.out.frozenAt 0
  have hst := O1.out.stored 0 (.int .u8 ((69 : Nat) : Int))
  rw [nus_set] at hst
  have HST := Lib.hid (show (w1.setCell ⟨g, 0, none⟩ (.int .u8 69)).ownsRow w.heap.size 5 1 (.slice (some ⟨g, 0, none⟩) 20 20) 20 (nus .u8 ((List.replicate 20 0).set 0 69)) ∧ w1.grownBy (w1.setCell ⟨g, 0, none⟩ (.int .u8 69)) (some g) from hst)
  clear hst
  go_wp2_with fail
  have O2 := Lib.hid HST.out.1
  have K2 := Lib.hid ((Below.refl g w1).grown HST.out.2 hgw (fun k e => by cases e; exact Nat.le_refl _))
  generalize w1.setCell ⟨g, 0, none⟩ (.int .u8 69) = w2 at O2 K2 ⊢
  clear HST c0 f0 O1
  refine (rput16_any g 20 20 w.heap.size 2 (20 + n) _ w2 O2.out h20m (by omega) (by omega)).mono ?_
  rintro e w3 ⟨rfl, o3, g3⟩
  have O3 := Lib.hid o3
  have K3 := Lib.hid (K2.out.grown g3 (Nat.le_trans hgw K2.out.size) (fun k e => by cases e; exact Nat.le_refl _))
  clear o3 g3 O2 K2
  obtain ⟨Z, hZ⟩ : ∃ Z, Z = (((List.replicate 20 0).set 0 69).set 2 ((20 + n) / 256)).set (2 + 1) ((20 + n) % 256) := ⟨_, rfl⟩
  have HZL : Hid (Z.length = 20) := by
    show _ = _
    rw [hZ]; simp
  rw [← hZ] at O3 HM
  clear hZ
  have c6 := O3.out.cellAt 6 (by omega)
  have c8 := O3.out.cellAt 8 (by omega)
  have c9 := O3.out.cellAt 9 (by omega)
  rw [nus_get _ _ _ (by rw [HZL.out]; omega)] at c6 c8 c9
  have f6 := O3.out.frozenAt 6
  have f8 := O3.out.frozenAt 8
  have f9 := O3.out.frozenAt 9
  have h6 := O3.out.stored 6 (.int .u8 ((64 : Nat) : Int))
  rw [nus_set] at h6
  have h8 := h6.1.stored 8 (.int .u8 ((64 : Nat) : Int))
  rw [nus_set] at h8
  have h9 := h8.1.stored 9 (.int .u8 (p : Int))
  rw [nus_set] at h9
  have k6 := K3.out.grown h6.2 (Nat.le_trans hgw K3.out.size) (fun k e => by cases e; exact Nat.le_refl _)
  have k8 := k6.grown h8.2 (Nat.le_trans hgw k6.size) (fun k e => by cases e; exact Nat.le_refl _)
  have k9 := k8.grown h9.2 (Nat.le_trans hgw k8.size) (fun k e => by cases e; exact Nat.le_refl _)
  have H9 := Lib.hid (show (((w3.setCell ⟨g, 6, none⟩ (.int .u8 64)).setCell ⟨g, 8, none⟩ (.int .u8 64)).setCell ⟨g, 9, none⟩ (.int .u8 (p : Int))).ownsRow w.heap.size 5 1 (.slice (some ⟨g, 0, none⟩) 20 20) 20 (nus .u8 (((Z.set 6 64).set 8 64).set 9 p)) from h9.1)
  have K9 := Lib.hid (show Below g w1 (((w3.setCell ⟨g, 6, none⟩ (.int .u8 64)).setCell ⟨g, 8, none⟩ (.int .u8 64)).setCell ⟨g, 9, none⟩ (.int .u8 (p : Int))) from k9)
  clear h6 h8 h9 k6 k8 k9
  generalize Z.getD 6 0 = y6 at c6
  generalize Z.getD 8 0 = y8 at c8
  generalize Z.getD 9 0 = y9 at c9
  have hpl : (((Z.set 6 64).set 8 64).set 9 p).length = 20 := by simp [HZL.out]
  obtain ⟨P, hP⟩ : ∃ P, P = ((Z.set 6 64).set 8 64).set 9 p := ⟨_, rfl⟩
  rw [← hP] at H9 HM hpl
  have HPL := Lib.hid hpl
  clear hP hpl
  go_wp2
  go_loopw [11] (fun i wr => ∃ k : Nat, k ≤ 4 ∧ i = .int .i64 (k : Int) ∧ Hid (wr.ownsRow w.heap.size 5 1 (.slice (some ⟨g, 0, none⟩) 20 20) 20 (nus .u8 (rowj P sb db k))) ∧ Hid (Below g w1 wr)) (fun i _ => 4 - (RowKit.intOf i).toNat)
  case atStart => exact ⟨0, by omega, rfl, by show World.ownsRow _ _ _ _ _ _ _; rw [rowj_zero P sb db HPL.out]; exact H9.out, K9⟩
  case round =>
    obtain ⟨k, hk4, rfl, hO, hK⟩ := hrel
    clear c6 c8 c9 f6 f8 f9 H9 K9 O3 K3
    by_cases hlt : k < 4
    · have s1 := ((N1.out.below hK.out hg1).cell (1 + k)).trans (G1.out k hlt)
      have s2 := ((N2.out.below hK.out hg2).cell (1 + k)).trans (G2.out k hlt)
      have t1 := hO.out.cellAt (12 + k) (by omega)
      have t2 := hO.out.cellAt (16 + k) (by omega)
      rw [nus_get _ _ _ (by rw [rowj_length]; omega)] at t1 t2
      have f1 := hO.out.frozenAt (12 + k)
      have f2 := hO.out.frozenAt (16 + k)
      have q1 := hO.out.stored (12 + k) (.int .u8 ((sb.getD k 0 : Nat) : Int))
      rw [nus_set] at q1
      have q2 := q1.1.stored (16 + k) (.int .u8 ((db.getD k 0 : Nat) : Int))
      rw [nus_set, rowj_step P sb db k hlt] at q2
      have k1 := hK.out.grown q1.2 (Nat.le_trans hgw hK.out.size) (fun k e => by cases e; exact Nat.le_refl _)
      have k2 := k1.grown q2.2 (Nat.le_trans hgw k1.size) (fun k e => by cases e; exact Nat.le_refl _)
      have Q := Lib.hid q2.1
      have KK := Lib.hid k2
      generalize (rowj P sb db k).getD (12 + k) 0 = y1 at t1
      generalize (rowj P sb db k).getD (16 + k) 0 = y2 at t2
      clear q1 q2 k1 k2
      generalize sb.getD k 0 = x1 at *
      generalize db.getD k 0 = x2 at *
      have a1 : IntKind.i64.wrap (12 + (k : Int)) = 12 + (k : Int) := by rw [IntKind.wrap_i64]; omega
      have a2 : IntKind.i64.wrap (16 + (k : Int)) = 16 + (k : Int) := by rw [IntKind.wrap_i64]; omega
      have b1 : (0 : Int) ≤ 12 + (k : Int) ∧ 12 + (k : Int) < 20 := by omega
      have b2 : (0 : Int) ≤ 16 + (k : Int) ∧ 16 + (k : Int) < 20 := by omega
      have d1 : ((12 : Int) + (k : Int)).toNat = 12 + k := by omega
      have d2 : ((16 : Int) + (k : Int)).toNat = 16 + k := by omega
      go_wp2
      go_roundw
      case rel => exact ⟨k + 1, by omega, by go_num, Q, KK⟩
      case measure => simp [RowKit.intOf]; omega
    · obtain rfl : k = 4 := by omega
      have O4 := Lib.hid (show wr.ownsRow w.heap.size 5 1 (.slice (some ⟨g, 0, none⟩) 20 20) 20 (nus .u8 M) from by rw [← HM.out]; exact hO.out)
      have K4 := hK
      clear hO hK hlt
      go_wp2_with fail
      refine (rcheck_any _ M _ (Rd.own O4.out) (by rw [HML.out]; omega) HMB.out).mono ?_
      rintro e w9 ⟨rfl, rfl⟩
      go_wp2_with fail
      refine (rput16_any g 20 20 w.heap.size 10 (ck M) M _ O4.out h20m (by omega) (by omega)).mono ?_
      rintro e w10 ⟨rfl, o10, g10⟩
      rw [← HR.out] at o10
      have O10 := Lib.hid o10
      have K10 := Lib.hid (K4.out.grown g10 (Nat.le_trans hgw K4.out.size) (fun k e => by cases e; exact Nat.le_refl _))
      clear o10 g10 O4 K4
      go_wp2
      go_ret2
      exact ⟨_, rfl, O10.out, K1.out.trans (K10.out.mono hgl)⟩
end Go.Proofs.Ytbhiknojjmdbiaa

/- Segments to another port and address, in plain numbers. Nothing of the program. -/
namespace Go.Proofs.Ytbhiknojjmdbiaa
open Go.RowKit

theorem set_ov (zs : List Nat) (k v : Nat) (h : k + 2 ≤ zs.length) (hv : v < 65536) : (zs.set k (v / 256)).set (k + 1) (v % 256) = ov zs (bg 2 v) k := by
  have hl : (bg 2 v).length = 2 := bg_length 2 v
  refine ext_getD _ _ 0 (by rw [ov_length _ _ _ (by omega)]; simp) fun i hi => ?_
  have hi2 : i < zs.length := by simpa using hi
  rw [set_get _ _ _ _ (by simpa using hi2), set_get _ _ _ _ hi2, ov_get _ _ _ _ (by omega), hl]
  have hb : bg 2 v = [v / 256 % 256, v % 256] := by simp [bg]
  rw [hb]
  by_cases h1 : k + 1 = i
  · subst h1
    rw [if_pos rfl, if_pos (by omega), show k + 1 - k = 1 by omega]; rfl
  · rw [if_neg h1]
    by_cases h2 : k = i
    · subst h2
      rw [if_pos rfl, if_pos (by omega), Nat.sub_self]
      show v / 256 = v / 256 % 256
      omega
    · rw [if_neg h2, if_neg (by omega)]

theorem bytesA_lt (v : Bool) (bs : List Nat) (h : ∀ c ∈ bs, c < 256) : ∀ c ∈ bytesA v bs, c < 256 := by
  unfold bytesA; split
  · exact h
  · exact fun c hc => h c (List.mem_of_mem_take hc)
theorem bytesA_len (v : Bool) (bs : List Nat) (h : bs.length = 16) : (bytesA v bs).length = if v then 16 else 4 := by
  unfold bytesA; split
  · exact h
  · simp [h]
/-- The checksum behind another port and address, ahead of what UDP does with 0. -/
def pc1 (p : Nat) (zs : List Nat) (tp : Nat) (v : Bool) (F D : List Nat) : Nat :=
  chA (chA (u2 zs (sAt p)) ((zs.drop 2).take 2) (bg 2 tp)) (bytesA v F) (bytesA v D)
def pc (p : Nat) (zs : List Nat) (tp : Nat) (v : Bool) (F D : List Nat) : Nat := if p = 17 ∧ pc1 p zs tp v F D = 0 then 65535 else pc1 p zs tp v F D
/-- The segment to another port and address. -/
def prt (p : Nat) (zs : List Nat) (tp : Nat) (v : Bool) (F D : List Nat) : List Nat :=
  if wo p zs then ov zs (bg 2 tp) 2 else ov (ov zs (bg 2 tp) 2) (bg 2 (pc p zs tp v F D)) (sAt p)
def pOut (p : Nat) (zs : List Nat) (tp : Nat) (v1 : Bool) (F : List Nat) (v2 : Bool) (D : List Nat) : List Nat := if fs p zs = 0 ∧ v1 = v2 then prt p zs tp v1 F D else []
theorem two_at (zs : List Nat) (k : Nat) (h : k + 2 ≤ zs.length) : ((zs.drop k).take 2).length = 2 := by simp; omega
theorem ov_two (zs : List Nat) (tp : Nat) (h : 4 ≤ zs.length) : ((ov zs (bg 2 tp) 2).drop 2).take 2 = bg 2 tp := by
  have := ov_mid zs (bg 2 tp) 2 (by rw [bg_length]; omega)
  rwa [bg_length] at this
theorem pc1_lt (p : Nat) (zs : List Nat) (tp : Nat) (v : Bool) (F D : List Nat) (hb : ∀ c ∈ zs, c < 256) : pc1 p zs tp v F D < 65536 := chA_lt _ _ _ (chA_lt _ _ _ (u2_lt _ _ hb))
theorem pc_lt (p : Nat) (zs : List Nat) (tp : Nat) (v : Bool) (F D : List Nat) (hb : ∀ c ∈ zs, c < 256) : pc p zs tp v F D < 65536 := by
  have := pc1_lt p zs tp v F D hb
  unfold pc; split <;> omega
end Go.Proofs.Ytbhiknojjmdbiaa

/- seg.Port. -/
namespace Go.Proofs.Ytbhiknojjmdbiaa
open Go.RowKit

set_option maxRecDepth 100000 in
set_option maxHeartbeats 1000000 in
theorem port_no (p : Nat) (v : Value) (zs : List Nat) (tp : Nat) (v1 : Bool) (F : List Nat) (v2 : Bool) (D : List Nat) (w : World) (hr : Rd w v (nus .u8 zs)) (hb : ∀ c ∈ zs, c < 256) (h : fs p zs ≠ 0 ∨ v1 ≠ v2) :
    Calls Try.prog 13 #[.int .u8 (p : Int), v, .int .u16 (tp : Int), adr v1 F, adr v2 D] w fun e w' => e = .returned (.slice none 0 0) ∧ Below w.heap.size w w' := by
  obtain ⟨a, cap, rfl, -, -⟩ := rd_shape hr
  unfold adr
  have e1 : (cellsA v1 F)[0]? = some (.bool v1) := cellsA_head _ _
  have e2 : (cellsA v2 D)[0]? = some (.bool v2) := cellsA_head _ _
  generalize cellsA v1 F = c1 at *
  generalize cellsA v2 D = c2 at *
  have B1 := (Below.refl w.heap.size w).alloc (Nat.le_refl _) (.cells c1 26)
  have hB2 := B1.alloc B1.size (.cells c2 26)
  have CF := Lib.hid (fault_any p _ zs _ (hr.below hB2) hb)
  have HB := Lib.hid hB2
  have hc1 := (((Blk.new w 26 c1).alloc (.cells c2 26)).cell 0).trans e1
  have hc2 := ((Blk.new (w.alloc (.cells c1 26)) 26 c2).cell 0).trans e2
  rw [World.size_alloc] at hc2
  generalize fs p zs = r at *
  generalize zs.length = n at *
  clear e1 e2 B1 hB2 hr hb
  by_cases hr0 : r = 0
  · have hv : v1 ≠ v2 := by rcases h with h | h; exact absurd hr0 h; exact h
    subst hr0
    clear h
    cases v1 <;> cases v2
    · exact absurd rfl hv
    · clear hv
      go_enter Try.func13, Try.ntmps13
      go_wp2_with fail
      refine CF.out.mono ?_; rintro e w' ⟨rfl, rfl⟩
      go_wp2
      go_ret
      exact ⟨rfl, HB.out⟩
    · clear hv
      go_enter Try.func13, Try.ntmps13
      go_wp2_with fail
      refine CF.out.mono ?_; rintro e w' ⟨rfl, rfl⟩
      go_wp2
      go_ret
      exact ⟨rfl, HB.out⟩
    · exact absurd rfl hv
  · have g0 : ((r : Int) != 0) = true := by simp; omega
    clear h hr0 hc1 hc2
    go_enter Try.func13, Try.ntmps13
    go_wp2_with fail
    refine CF.out.mono ?_; rintro e w' ⟨rfl, rfl⟩
    go_wp2
    go_ret
    exact ⟨rfl, HB.out⟩

set_option maxRecDepth 100000 in
set_option maxHeartbeats 4000000 in
theorem port_yes (p : Nat) (v : Value) (zs : List Nat) (tp : Nat) (v1 : Bool) (F D : List Nat) (w : World) (hr : Rd w v (nus .u8 zs)) (hb : ∀ c ∈ zs, c < 256) (h : fs p zs = 0) (hz : zs.length ≤ 140737488351232) (ht : tp < 65536)
    (hF : F.length = 16) (hD : D.length = 16) (hbF : ∀ c ∈ F, c < 256) (hbD : ∀ c ∈ D, c < 256) :
    Calls Try.prog 13 #[.int .u8 (p : Int), v, .int .u16 (tp : Int), adr v1 F, adr v1 D] w fun e w' => ∃ x, e = .returned x ∧ Rd w' x (nus .u8 (prt p zs tp v1 F D)) ∧ Below w.heap.size w w' := by
  have hn8 : 8 ≤ zs.length := by rcases fs_yes p zs h with ⟨-, h1, -⟩ | ⟨-, h1, -⟩ <;> omega
  have hat := sAt_in p zs h
  have hat1 := sAt_le p
  obtain ⟨a, cap, rfl, hlc, hlm⟩ := rd_shape hr
  obtain ⟨b, off, rfl, -⟩ := hr.cells (by omega)
  have CB1 := Lib.hid (fun w' => bytes_own v1 F hF w')
  have CB2 := Lib.hid (fun w' => bytes_own v1 D hD w')
  have lF := bytesA_len v1 F hF
  have lD := bytesA_len v1 D hD
  have bF := bytesA_lt v1 F hbF
  have bD := bytesA_lt v1 D hbD
  have CF := Lib.hid (fun W (h : Rd W (.slice (some ⟨b, off, none⟩) zs.length cap) (nus .u8 zs)) => fault_any p _ zs W h hb)
  rw [h] at CF
  have CC := Lib.hid (fun W h => clone_any ⟨b, off, none⟩ cap zs W h (by omega) (by omega))
  have CP := Lib.hid (fun W g cx base (h : W.ownsRow base 5 1 (.slice (some ⟨g, 0, none⟩) zs.length cx) zs.length (nus .u8 zs)) => put16_yes g zs.length cx base 2 tp zs W h (by omega) (by omega) ht)
  rw [put_ov] at CP
  have CT := Lib.hid (fun W (h : Rd W (.slice (some ⟨b, off, none⟩) zs.length cap) (nus .u8 zs)) => without_any p _ zs W h hb (fun _ => by omega))
  have CA := Lib.hid (fun W => sumAt_any p W)
  have CW := Lib.hid (fun W (h : Rd W (.slice (some ⟨b, off, none⟩) zs.length cap) (nus .u8 zs)) => word_any _ (sAt p) zs W h hb (by omega))
  have hwl := u2_lt zs (sAt p) hb
  have hm2 : ((ov zs (bg 2 tp) 2).drop 2).take 2 = bg 2 tp := ov_two zs tp (by omega)
  have l2 := two_at zs 2 (by omega)
  have CG := Lib.hid (fun W x y h1 h2 => change_any (u2 zs (sAt p)) x y ((zs.drop 2).take 2) (bg 2 tp) W h1 h2 (by omega) (fun c hc => hb c (List.mem_of_mem_drop (List.mem_of_mem_take hc))) (bg_lt 2 tp) hwl)
  have hc0 : chA (u2 zs (sAt p)) ((zs.drop 2).take 2) (bg 2 tp) < 65536 := chA_lt _ _ _ hwl
  have CH := Lib.hid (fun W x y h1 h2 => change_any (chA (u2 zs (sAt p)) ((zs.drop 2).take 2) (bg 2 tp)) x y (bytesA v1 F) (bytesA v1 D) W h1 h2 (by rw [lF]; split <;> omega) bF bD hc0)
  have hp1 := pc1_lt p zs tp v1 F D hb
  have hpc := pc_lt p zs tp v1 F D hb
  rw [show chA (chA (u2 zs (sAt p)) ((zs.drop 2).take 2) (bg 2 tp)) (bytesA v1 F) (bytesA v1 D) = pc1 p zs tp v1 F D from rfl] at CH
  have lov : (ov zs (bg 2 tp) 2).length = zs.length := ov_length _ _ _ (by rw [bg_length]; omega)
  have CQ := Lib.hid (fun W g cx base (h : W.ownsRow base 5 1 (.slice (some ⟨g, 0, none⟩) zs.length cx) zs.length (nus .u8 (ov zs (bg 2 tp) 2))) => put16_yes g zs.length cx base (sAt p) (pc p zs tp v1 F D) (ov zs (bg 2 tp) 2) W h (by omega) (by omega) hpc)
  rw [put_ov] at CQ
  have HS1 := Lib.hid (hr.sub 2 2 (by omega))
  have HP : Hid (pc p zs tp v1 F D = if p = 17 ∧ pc1 p zs tp v1 F D = 0 then 65535 else pc1 p zs tp v1 F D) := rfl
  have HX : Hid (prt p zs tp v1 F D = if wo p zs then ov zs (bg 2 tp) 2 else ov (ov zs (bg 2 tp) 2) (bg 2 (pc p zs tp v1 F D)) (sAt p)) := rfl
  unfold adr at CB1 CB2 ⊢
  have E1 := Lib.hid (show (cellsA v1 F)[0]? = some (.bool v1) from cellsA_head _ _)
  have E2 := Lib.hid (show (cellsA v1 D)[0]? = some (.bool v1) from cellsA_head _ _)
  have z1 : (cellsA v1 F).size = 17 := by rw [cellsA_size, hF]
  have z2 : (cellsA v1 D).size = 17 := by rw [cellsA_size, hD]
  have I1 := Lib.hid (i24.trans (congrArg some z1.symm))
  have I2 := Lib.hid (i24.trans (congrArg some z2.symm))
  have HM2 := Lib.hid hm2
  have K := Lib.hid (Below.refl w.heap.size w)
  have HR := Lib.hid hr
  clear hr hb h z1 z2 hbF hbD bF bD hm2 hc0 l2 lF lD hF hD
  generalize cellsA v1 F = c1 at *
  generalize cellsA v1 D = c2 at *
  generalize bytesA v1 F = bf at *
  generalize bytesA v1 D = bd at *
  generalize wo p zs = wq at *
  generalize pc p zs tp v1 F D = pcv at *
  generalize pc1 p zs tp v1 F D = pc1v at *
  generalize prt p zs tp v1 F D = RES at *
  generalize u2 zs (sAt p) = o0 at *
  generalize ov zs (bg 2 tp) 2 = ZO at *
  generalize (zs.drop 2).take 2 = Z2 at *
  generalize chA o0 Z2 (bg 2 tp) = ch0 at *
  generalize bg 2 tp = bt at *
  obtain ⟨at0, hat0⟩ : ∃ x, x = sAt p := ⟨_, rfl⟩
  rw [← hat0] at CA CW CQ HX hat hat1
  clear hat0
  generalize zs.length = n at *
  unfold maxLen at hlm
  go_enter Try.func13, Try.ntmps13
  have hal := (Below.refl w.heap.size w).alloc (Nat.le_refl _) (.cells c1 26)
  replace K := Lib.hid (K.out.trans (hal.mono K.out.size))
  have N1 := Lib.hid (Blk.new w 26 c1)
  clear hal
  have hal := (Below.refl (w.alloc (.cells c1 26)).heap.size (w.alloc (.cells c1 26))).alloc (Nat.le_refl _) (.cells c2 26)
  replace K := Lib.hid (K.out.trans (hal.mono K.out.size))
  replace N1 := Lib.hid (N1.out.below hal N1.out.lt)
  have N2q := Blk.new (w.alloc (.cells c1 26)) 26 c2
  simp only [World.size_alloc] at N2q
  have N2 := Lib.hid N2q
  clear N2q
  clear hal
  have hc1 := (N1.out.cell 0).trans E1.out
  have hc2 := (N2.out.cell 0).trans E2.out
  have ge : (v1 != v1) = false := by cases v1 <;> rfl
  go_wp2_with fail
  have hzV1 : Hid (((w.alloc (.cells c1 26)).alloc (.cells c2 26)).heap.size = w.heap.size + 1 + 1) := by show _ = _; simp only [World.size_alloc]
  generalize ((w.alloc (.cells c1 26)).alloc (.cells c2 26)) = V1 at *
  refine (CF.out _ (HR.out.below K.out)).mono ?_
  rintro e V2 ⟨rfl, rfl⟩
  go_wp2_with fail
  have hw1 : w.heap.size ≤ V1.heap.size := K.out.size
  have hN1 : w.heap.size + 1 < V1.heap.size := N2.out.lt
  clear hc1 hc2
  refine (CC.out _ (HR.out.below K.out)).mono ?_
  rintro e V3 ⟨x, rfl, hx, hy⟩
  replace K := Lib.hid (K.out.trans (hy.mono K.out.size))
  replace N1 := Lib.hid (N1.out.below hy N1.out.lt)
  replace N2 := Lib.hid (N2.out.below hy N2.out.lt)
  have O := Lib.hid (hx)
  clear hx
  clear hy
  obtain ⟨g, cx, rfl, hcx, hcxm, hgl, hgu⟩ := own_at O.out (by omega)
  clear ge
  go_wp2_with fail
  refine (CP.out _ _ _ _ O.out).mono ?_
  rintro e V4 ⟨rfl, og, gr⟩
  replace K := Lib.hid (K.out.grown gr K.out.size (fun k e => by first | (cases e; done) | (cases e; first | exact Nat.le_refl _ | omega)))
  replace N1 := Lib.hid (show Blk _ _ _ _ from (gr.block _ N1.out.lt (by first | (simp; done) | (simp; omega))).trans N1.out)
  replace N2 := Lib.hid (show Blk _ _ _ _ from (gr.block _ N2.out.lt (by first | (simp; done) | (simp; omega))).trans N2.out)
  replace O := Lib.hid og
  clear og gr
  go_wp2_with fail
  refine (CT.out _ (HR.out.below K.out)).mono ?_
  rintro e V5 ⟨rfl, rfl⟩
  cases wq with
  | true =>
    rw [show ZO = RES by rw [HX.out]; rfl] at O
    clear HX
    go_wp2
    go_ret
    exact ⟨_, rfl, Rd.own O.out, K.out⟩
  | false =>
    have HX2 := Lib.hid (show RES = ov ZO (bg 2 pcv) at0 by rw [HX.out]; rfl)
    clear HX
    go_wp2_with fail
    refine (CA.out _).mono ?_
    rintro e V6 ⟨rfl, rfl⟩
    go_wp2_with fail
    have hs2 := (Rd.own O.out).sub 2 2 (by omega)
    rw [HM2.out] at hs2
    have HS2 := Lib.hid hs2
    have H1 := Lib.hid (HR.out.below K.out)
    have H2 := Lib.hid (HS1.out.below K.out)
    clear hs2
    go_wp2_with fail
    refine wp_region_held (S := (fun w' : World => Below (V4.heap.size) V4 w')) (by kernel_rfl) ?_
    change wpAnyH _ _ _ _ _ _ _ _ V4.drew
    have hy : Below V4.heap.size V4 V4.drew := (Below.refl _ _).drew
    have hE0 : Below (V4.heap.size) V4 V4.drew := (Below.refl _ _).drew
    clear hy
    generalize V4.drew = Y8x0 at hE0  ⊢
    have E0 := Lib.hid hE0
    clear hE0
    refine wpAnyH_take (i := 0) (oi := { dst := some 37, op := Op.move (Operand.tmp 1), type := 22, pos := "seg.go:114", after := #[], guard := none }) (v := ?_) rfl (by kernel_rfl) (by kernel_rfl) (by kernel_rfl) (fun _ _ _ h => h) (Or.inl ⟨by rfl, ?_⟩) E0.out ?_
    rotate_left
    · (intro w1 hS; go_simp; try with_reducible rfl)
    simp only [Act.put, List.setIfInBounds_toArray, List.set_cons_zero, List.set_cons_succ]
    refine wpAnyH_take (i := 1) (oi := { dst := some 38, op := Op.move (Operand.tmp 12), type := 3, pos := "seg.go:114", after := #[], guard := none }) (v := ?_) rfl (by kernel_rfl) (by kernel_rfl) (by kernel_rfl) (fun _ _ _ h => h) (Or.inl ⟨by rfl, ?_⟩) E0.out ?_
    rotate_left
    · (intro w1 hS; go_simp; try with_reducible rfl)
    simp only [Act.put, List.setIfInBounds_toArray, List.set_cons_zero, List.set_cons_succ]
    refine wpAnyH_take (i := 3) (oi := { dst := some 40, op := Op.move (Operand.tmp 1), type := 22, pos := "seg.go:114", after := #[], guard := none }) (v := ?_) rfl (by kernel_rfl) (by kernel_rfl) (by kernel_rfl) (fun _ _ _ h => h) (Or.inl ⟨by rfl, ?_⟩) E0.out ?_
    rotate_left
    · (intro w1 hS; go_simp; try with_reducible rfl)
    simp only [Act.put, List.setIfInBounds_toArray, List.set_cons_zero, List.set_cons_succ]
    refine wpAnyH_take (i := 4) (oi := { dst := some 41, op := Op.move (Operand.tmp 13), type := 3, pos := "seg.go:114", after := #[], guard := none }) (v := ?_) rfl (by kernel_rfl) (by kernel_rfl) (by kernel_rfl) (fun _ _ _ h => h) (Or.inl ⟨by rfl, ?_⟩) E0.out ?_
    rotate_left
    · (intro w1 hS; go_simp; try with_reducible rfl)
    simp only [Act.put, List.setIfInBounds_toArray, List.set_cons_zero, List.set_cons_succ]
    refine wpAnyH_take (i := 5) (oi := { dst := some 42, op := Op.slice 22 (Operand.tmp 40) (some (Operand.const (Value.int IntKind.i64 2))) (some (Operand.tmp 41)) none, type := 22, pos := "seg.go:114", after := #[{ on := 3, ground := Ground.data }, { on := 4, ground := Ground.data }], guard := none }) (v := ?_) rfl (by kernel_rfl) (by kernel_rfl) (by kernel_rfl) (fun _ _ _ h => h) (Or.inl ⟨by rfl, ?_⟩) E0.out ?_
    rotate_left
    · (intro w1 hS; have hW := hS; have q : (2 : Int) ≤ (cap : Int) := (by omega); have q3 : (4 : Int) ≤ (cap : Int) := (by omega); have q4 : (4 : Int) ≤ (n : Int) := (by omega); have q2 : (cap = 2) = False := (eq_false (by omega)); clear hW hS; go_simp; try with_reducible rfl)
    simp only [Act.put, List.setIfInBounds_toArray, List.set_cons_zero, List.set_cons_succ]
    refine wpAnyH_take (i := 6) (oi := { dst := some 43, op := Op.move (Operand.tmp 11), type := 22, pos := "seg.go:114", after := #[], guard := none }) (v := ?_) rfl (by kernel_rfl) (by kernel_rfl) (by kernel_rfl) (fun _ _ _ h => h) (Or.inl ⟨by rfl, ?_⟩) E0.out ?_
    rotate_left
    · (intro w1 hS; go_simp; try with_reducible rfl)
    simp only [Act.put, List.setIfInBounds_toArray, List.set_cons_zero, List.set_cons_succ]
    refine wpAnyH_take (i := 7) (oi := { dst := some 44, op := Op.move (Operand.tmp 13), type := 3, pos := "seg.go:114", after := #[], guard := none }) (v := ?_) rfl (by kernel_rfl) (by kernel_rfl) (by kernel_rfl) (fun _ _ _ h => h) (Or.inl ⟨by rfl, ?_⟩) E0.out ?_
    rotate_left
    · (intro w1 hS; go_simp; try with_reducible rfl)
    simp only [Act.put, List.setIfInBounds_toArray, List.set_cons_zero, List.set_cons_succ]
    refine wpAnyH_take (i := 8) (oi := { dst := some 45, op := Op.slice 22 (Operand.tmp 43) (some (Operand.const (Value.int IntKind.i64 2))) (some (Operand.tmp 44)) none, type := 22, pos := "seg.go:114", after := #[{ on := 6, ground := Ground.data }, { on := 7, ground := Ground.data }], guard := none }) (v := ?_) rfl (by kernel_rfl) (by kernel_rfl) (by kernel_rfl) (fun _ _ _ h => h) (Or.inl ⟨by rfl, ?_⟩) E0.out ?_
    rotate_left
    · (intro w1 hS; have hW := hS; have q : (2 : Int) ≤ (cx : Int) := (by omega); have q3 : (4 : Int) ≤ (cx : Int) := (by omega); have q4 : (4 : Int) ≤ (n : Int) := (by omega); have q2 : (cx = 2) = False := (eq_false (by omega)); clear hW hS; go_simp; try with_reducible rfl)
    simp only [Act.put, List.setIfInBounds_toArray, List.set_cons_zero, List.set_cons_succ]
    refine wpAnyH_ready (rs := [2]) (by kernel_rfl) (by simp) ?_
    refine AllReadyH.cons (o := { dst := some 39, op := Op.call { callee := Callee.value (Operand.func 22), args := #[Operand.tmp 37, Operand.tmp 38], argTypes := #[22, 3] }, type := 23, pos := "seg.go:114", after := #[{ on := 0, ground := Ground.data }, { on := 1, ground := Ground.data }], guard := none }) rfl (fun KK hK => ?_) AllReadyH.nil
    go_simp
    refine (same_below (CW.out Y8x0 (H1.out.below E0.out))).mono ?_
    rintro e Y8x1 ⟨rfl, hy⟩
    have E1 := Lib.hid (E0.out.trans (hy.mono E0.out.size))
    have C1 := Lib.hid E1.out
    clear hy E0
    refine hK.out _ _ C1.out (fun _ => ?_)
    clear hK KK
    refine wpAnyH_mono (S' := (fun w' : World => Below Y8x1.heap.size Y8x1 w')) (fun w1 h => C1.out.trans (h.mono C1.out.size)) _ _ _ _ ?_
    clear C1
    try simp only [Act.put, List.setIfInBounds_toArray, List.set_cons_zero, List.set_cons_succ]
    refine wpAnyH_ready (rs := [9]) (by kernel_rfl) (by simp) ?_
    refine AllReadyH.cons (o := { dst := some 46, op := Op.call { callee := Callee.value (Operand.func 28), args := #[Operand.tmp 39, Operand.tmp 42, Operand.tmp 45], argTypes := #[23, 22, 22] }, type := 23, pos := "seg.go:114", after := #[{ on := 2, ground := Ground.data }, { on := 5, ground := Ground.data }, { on := 8, ground := Ground.data }, { on := 2, ground := Ground.chain }], guard := none }) rfl (fun KK hK => ?_) AllReadyH.nil
    go_simp
    refine (CG.out Y8x1 _ _ (H2.out.below E1.out) (HS2.out.below E1.out)).mono ?_
    rintro e Y8x2 ⟨rfl, hy⟩
    have E2 := Lib.hid (E1.out.trans (hy.mono E1.out.size))
    have C2 := Lib.hid hy
    clear hy E1
    refine hK.out _ _ C2.out (fun _ => ?_)
    clear hK KK
    refine wpAnyH_mono (S' := (fun w' : World => Below Y8x2.heap.size Y8x2 w')) (fun w1 h => C2.out.trans (h.mono C2.out.size)) _ _ _ _ ?_
    clear C2
    try simp only [Act.put, List.setIfInBounds_toArray, List.set_cons_zero, List.set_cons_succ]
    refine wpAnyH_take (i := 10) (oi := { dst := some 14, op := Op.assign (Operand.tmp 46), type := 23, pos := "seg.go:114", after := #[{ on := 9, ground := Ground.data }, { on := 9, ground := Ground.chain }, { on := 0, ground := Ground.phase }, { on := 1, ground := Ground.phase }, { on := 2, ground := Ground.phase }, { on := 3, ground := Ground.phase }, { on := 4, ground := Ground.phase }, { on := 5, ground := Ground.phase }, { on := 6, ground := Ground.phase }, { on := 7, ground := Ground.phase }, { on := 8, ground := Ground.phase }, { on := 9, ground := Ground.phase }], guard := none }) (v := ?_) rfl (by kernel_rfl) (by kernel_rfl) (by kernel_rfl) (fun _ _ _ h => h) (Or.inl ⟨by rfl, ?_⟩) (Below.refl _ _) ?_
    rotate_left
    · (intro w1 hS; go_simp; try with_reducible rfl)
    simp only [Act.put, List.setIfInBounds_toArray, List.set_cons_zero, List.set_cons_succ]
    refine wpAnyH_done (by kernel_rfl) ?_ _
    have hy := E2.out
    replace K := Lib.hid (K.out.trans (hy.mono K.out.size))
    replace N1 := Lib.hid (N1.out.below hy N1.out.lt)
    replace N2 := Lib.hid (N2.out.below hy N2.out.lt)
    replace O := Lib.hid (row_under O.out hy)
    clear hy E2
    clear H1 H2 HS2
    go_wp2_with fail
    refine wp_region_held (S := (fun w' : World => Below (Y8x2.heap.size) Y8x2 w')) (by kernel_rfl) ?_
    change wpAnyH _ _ _ _ _ _ _ _ Y8x2.drew
    have hy : Below Y8x2.heap.size Y8x2 Y8x2.drew := (Below.refl _ _).drew
    have hE0 : Below (Y8x2.heap.size) Y8x2 Y8x2.drew := (Below.refl _ _).drew
    clear hy
    generalize Y8x2.drew = Y9x0 at hE0  ⊢
    have E0 := Lib.hid hE0
    clear hE0
    refine wpAnyH_take (i := 0) (oi := { dst := some 47, op := Op.move (Operand.tmp 14), type := 23, pos := "seg.go:115", after := #[], guard := none }) (v := ?_) rfl (by kernel_rfl) (by kernel_rfl) (by kernel_rfl) (fun _ _ _ h => h) (Or.inl ⟨by rfl, ?_⟩) E0.out ?_
    rotate_left
    · (intro w1 hS; go_simp; try with_reducible rfl)
    simp only [Act.put, List.setIfInBounds_toArray, List.set_cons_zero, List.set_cons_succ]
    refine wpAnyH_take (i := 1) (oi := { dst := some 48, op := Op.load 26 (Operand.tmp 8), type := 26, pos := "seg.go:115", after := #[], guard := none }) (v := .agg c1) rfl (by kernel_rfl) (by kernel_rfl) (by kernel_rfl) (fun _ _ _ h => h) (Or.inl ⟨by rfl, ?_⟩) E0.out ?_
    · (intro w1 hS; have hW := hS; exact exec_load 26 (.tmp 8) rfl _ rfl _ (run_blk_load (P := Try.prog) 26 (w.heap.size) _ (N1.out.below hW N1.out.lt) Try.underlying26 rfl I1.out))
    simp only [Act.put, List.setIfInBounds_toArray, List.set_cons_zero, List.set_cons_succ]
    refine wpAnyH_take (i := 3) (oi := { dst := some 50, op := Op.load 26 (Operand.tmp 9), type := 26, pos := "seg.go:115", after := #[], guard := none }) (v := .agg c2) rfl (by kernel_rfl) (by kernel_rfl) (by kernel_rfl) (fun _ _ _ h => h) (Or.inl ⟨by rfl, ?_⟩) E0.out ?_
    · (intro w1 hS; have hW := hS; exact exec_load 26 (.tmp 9) rfl _ rfl _ (run_blk_load (P := Try.prog) 26 (w.heap.size + 1) _ (N2.out.below hW N2.out.lt) Try.underlying26 rfl I2.out))
    simp only [Act.put, List.setIfInBounds_toArray, List.set_cons_zero, List.set_cons_succ]
    refine wpAnyH_ready (rs := [2]) (by kernel_rfl) (by simp) ?_
    refine AllReadyH.cons (o := { dst := some 49, op := Op.call { callee := Callee.value (Operand.func 29), args := #[Operand.tmp 48], argTypes := #[26] }, type := 22, pos := "seg.go:115", after := #[{ on := 1, ground := Ground.data }], guard := none }) rfl (fun KK hK => ?_) AllReadyH.nil
    go_simp
    refine (CB1.out Y9x0).mono ?_
    rintro e Y9x1 ⟨z1, rfl, oz1, hy⟩
    have E1 := Lib.hid (E0.out.trans (hy.mono E0.out.size))
    have C1 := Lib.hid E1.out
    have Z1 := Lib.hid (oz1)
    clear oz1
    clear hy E0
    refine hK.out _ _ C1.out (fun _ => ?_)
    clear hK KK
    refine wpAnyH_mono (S' := (fun w' : World => Below Y9x1.heap.size Y9x1 w')) (fun w1 h => C1.out.trans (h.mono C1.out.size)) _ _ _ _ ?_
    clear C1
    try simp only [Act.put, List.setIfInBounds_toArray, List.set_cons_zero, List.set_cons_succ]
    refine wpAnyH_ready (rs := [4]) (by kernel_rfl) (by simp) ?_
    refine AllReadyH.cons (o := { dst := some 51, op := Op.call { callee := Callee.value (Operand.func 29), args := #[Operand.tmp 50], argTypes := #[26] }, type := 22, pos := "seg.go:115", after := #[{ on := 3, ground := Ground.data }, { on := 2, ground := Ground.chain }], guard := none }) rfl (fun KK hK => ?_) AllReadyH.nil
    go_simp
    refine (CB2.out Y9x1).mono ?_
    rintro e Y9x2 ⟨z2, rfl, oz2, hy⟩
    replace Z1 := Lib.hid (row_under Z1.out hy)
    have E2 := Lib.hid (E1.out.trans (hy.mono E1.out.size))
    have C2 := Lib.hid hy
    have Z2o := Lib.hid (oz2)
    clear oz2
    clear hy E1
    refine hK.out _ _ C2.out (fun _ => ?_)
    clear hK KK
    refine wpAnyH_mono (S' := (fun w' : World => Below Y9x2.heap.size Y9x2 w')) (fun w1 h => C2.out.trans (h.mono C2.out.size)) _ _ _ _ ?_
    clear C2
    try simp only [Act.put, List.setIfInBounds_toArray, List.set_cons_zero, List.set_cons_succ]
    refine wpAnyH_ready (rs := [5]) (by kernel_rfl) (by simp) ?_
    refine AllReadyH.cons (o := { dst := some 52, op := Op.call { callee := Callee.value (Operand.func 28), args := #[Operand.tmp 47, Operand.tmp 49, Operand.tmp 51], argTypes := #[23, 22, 22] }, type := 23, pos := "seg.go:115", after := #[{ on := 0, ground := Ground.data }, { on := 2, ground := Ground.data }, { on := 4, ground := Ground.data }, { on := 4, ground := Ground.chain }], guard := none }) rfl (fun KK hK => ?_) AllReadyH.nil
    go_simp
    refine (CH.out Y9x2 _ _ (Rd.own Z1.out) (Rd.own Z2o.out)).mono ?_
    rintro e Y9x3 ⟨rfl, hy⟩
    replace Z1 := Lib.hid (row_under Z1.out hy)
    replace Z2o := Lib.hid (row_under Z2o.out hy)
    have E3 := Lib.hid (E2.out.trans (hy.mono E2.out.size))
    have C3 := Lib.hid hy
    clear hy E2
    refine hK.out _ _ C3.out (fun _ => ?_)
    clear hK KK
    refine wpAnyH_mono (S' := (fun w' : World => Below Y9x3.heap.size Y9x3 w')) (fun w1 h => C3.out.trans (h.mono C3.out.size)) _ _ _ _ ?_
    clear C3
    try simp only [Act.put, List.setIfInBounds_toArray, List.set_cons_zero, List.set_cons_succ]
    refine wpAnyH_take (i := 6) (oi := { dst := some 14, op := Op.assign (Operand.tmp 52), type := 23, pos := "seg.go:115", after := #[{ on := 5, ground := Ground.data }, { on := 5, ground := Ground.chain }, { on := 0, ground := Ground.phase }, { on := 1, ground := Ground.phase }, { on := 2, ground := Ground.phase }, { on := 3, ground := Ground.phase }, { on := 4, ground := Ground.phase }, { on := 5, ground := Ground.phase }], guard := none }) (v := ?_) rfl (by kernel_rfl) (by kernel_rfl) (by kernel_rfl) (fun _ _ _ h => h) (Or.inl ⟨by rfl, ?_⟩) (Below.refl _ _) ?_
    rotate_left
    · (intro w1 hS; go_simp; try with_reducible rfl)
    simp only [Act.put, List.setIfInBounds_toArray, List.set_cons_zero, List.set_cons_succ]
    refine wpAnyH_done (by kernel_rfl) ?_ _
    have hy := E3.out
    replace K := Lib.hid (K.out.trans (hy.mono K.out.size))
    replace N1 := Lib.hid (N1.out.below hy N1.out.lt)
    replace N2 := Lib.hid (N2.out.below hy N2.out.lt)
    replace O := Lib.hid (row_under O.out hy)
    clear hy E3
    clear Z1 Z2o
    by_cases hp : p = 17 ∧ pc1v = 0
    · obtain ⟨rfl, rfl⟩ := hp
      obtain rfl : pcv = 65535 := by rw [HP.out, if_pos ⟨rfl, rfl⟩]
      clear HP
      go_wp2_with fail
      refine (CQ.out _ _ _ _ O.out).mono ?_
      rintro e V7 ⟨rfl, og, gr⟩
      replace K := Lib.hid (K.out.grown gr K.out.size (fun k e => by first | (cases e; done) | (cases e; first | exact Nat.le_refl _ | omega)))
      replace N1 := Lib.hid (show Blk _ _ _ _ from (gr.block _ N1.out.lt (by first | (simp; done) | (simp; omega))).trans N1.out)
      replace N2 := Lib.hid (show Blk _ _ _ _ from (gr.block _ N2.out.lt (by first | (simp; done) | (simp; omega))).trans N2.out)
      replace O := Lib.hid og
      clear og gr
      rw [← HX2.out] at O
      go_wp2
      go_ret
      exact ⟨_, rfl, Rd.own O.out, K.out⟩
    obtain rfl : pcv = pc1v := by rw [HP.out, if_neg hp]
    clear HP
    have fin : (((p : Int) == 17) && ((pcv : Int) == 0)) = false := by
      rw [Bool.and_eq_false_iff, beq_eq_false_iff_ne, beq_eq_false_iff_ne]; omega
    by_cases h17 : p = 17
    · subst h17
      have g0 : ((pcv : Int) == 0) = false := by rw [beq_eq_false_iff_ne]; omega
      clear hp fin
      go_wp2_with fail
      refine (CQ.out _ _ _ _ O.out).mono ?_
      rintro e V7 ⟨rfl, og, gr⟩
      replace K := Lib.hid (K.out.grown gr K.out.size (fun k e => by first | (cases e; done) | (cases e; first | exact Nat.le_refl _ | omega)))
      replace N1 := Lib.hid (show Blk _ _ _ _ from (gr.block _ N1.out.lt (by first | (simp; done) | (simp; omega))).trans N1.out)
      replace N2 := Lib.hid (show Blk _ _ _ _ from (gr.block _ N2.out.lt (by first | (simp; done) | (simp; omega))).trans N2.out)
      replace O := Lib.hid og
      clear og gr
      rw [← HX2.out] at O
      go_wp2
      go_ret
      exact ⟨_, rfl, Rd.own O.out, K.out⟩
    · have g0 : ((p : Int) == 17) = false := by rw [beq_eq_false_iff_ne]; omega
      clear hp fin h17
      go_wp2_with fail
      refine (CQ.out _ _ _ _ O.out).mono ?_
      rintro e V7 ⟨rfl, og, gr⟩
      replace K := Lib.hid (K.out.grown gr K.out.size (fun k e => by first | (cases e; done) | (cases e; first | exact Nat.le_refl _ | omega)))
      replace N1 := Lib.hid (show Blk _ _ _ _ from (gr.block _ N1.out.lt (by first | (simp; done) | (simp; omega))).trans N1.out)
      replace N2 := Lib.hid (show Blk _ _ _ _ from (gr.block _ N2.out.lt (by first | (simp; done) | (simp; omega))).trans N2.out)
      replace O := Lib.hid og
      clear og gr
      rw [← HX2.out] at O
      go_wp2
      go_ret
      exact ⟨_, rfl, Rd.own O.out, K.out⟩

theorem port_any (p : Nat) (v : Value) (zs : List Nat) (tp : Nat) (v1 : Bool) (F : List Nat) (v2 : Bool) (D : List Nat) (w : World) (hr : Rd w v (nus .u8 zs)) (hb : ∀ c ∈ zs, c < 256) (hz : zs.length ≤ 140737488351232) (ht : tp < 65536)
    (hF : F.length = 16) (hD : D.length = 16) (hbF : ∀ c ∈ F, c < 256) (hbD : ∀ c ∈ D, c < 256) :
    Calls Try.prog 13 #[.int .u8 (p : Int), v, .int .u16 (tp : Int), adr v1 F, adr v2 D] w fun e w' => ∃ x, e = .returned x ∧ Rd w' x (nus .u8 (pOut p zs tp v1 F v2 D)) ∧ Below w.heap.size w w' := by
  unfold pOut
  by_cases h : fs p zs = 0 ∧ v1 = v2
  · obtain ⟨h1, rfl⟩ := h
    rw [if_pos ⟨h1, rfl⟩]
    exact port_yes p v zs tp v1 F D w hr hb h1 hz ht hF hD hbF hbD
  · rw [if_neg h]
    exact (port_no p v zs tp v1 F v2 D w hr hb (by by_cases h1 : fs p zs = 0; exact .inr (fun e => h ⟨h1, e⟩); exact .inl h1)).mono fun _ _ ⟨e, b⟩ => ⟨_, e, rd_nil _ _, b⟩
end Go.Proofs.Ytbhiknojjmdbiaa

