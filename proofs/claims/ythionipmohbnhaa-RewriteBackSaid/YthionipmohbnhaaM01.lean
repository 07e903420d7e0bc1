/- Texts that the walks of this seat lean on, put together. -/
import Derived.WalkKit
import Derived.Lib.Hide
import Derived.WalkSpells
import Derived.WalkLawsBesides
import Derived.Laws.CopyOwn
import Derived.OwnWalk
import Derived.Handy
import Derived.BigQuiet
import Derived.Deep.QuietTactic
import Derived.KernelRfl
import Derived.RangeFuncNested
import Derived.RangeFuncBound
import Derived.RangeFuncCalls
import Derived.RangeFuncLeaves
import Derived.RangeFuncBox
import Derived.Shelf.Abstract
import Derived.Shelf.RegionOpen
import Derived.OwnWalkIn
import Derived.TacticsInMore
import Derived.LoopNIn
import Derived.LoopIn
import Derived.Maps.AppendAt
import Derived.OpenShut
import Derived.WalkSmall
import Derived.Lib.QuietBelow
import Derived.Test.YthionipmohbnhaaTk
import Derived.Test.YthionipmohbnhaaProg
namespace Go.Proofs.Ythionipmohbnhaa
open Go.RowKit
def be (l : List Nat) : Nat := l.foldl (fun v c => v * 256 + c) 0
theorem be_snoc (l : List Nat) (c : Nat) : be (l ++ [c]) = be l * 256 + c := by simp [be]
theorem fold_lt (l : List Nat) (h : ∀ c ∈ l, c < 256) : ∀ a, l.foldl (fun v c => v * 256 + c) a < (a + 1) * 256 ^ l.length := by
  induction l with
  | nil => intro a; simp
  | cons c l ih =>
    intro a
    have h1 := ih (fun x hx => h x (by simp [hx])) (a * 256 + c)
    have h2 := h c (by simp)
    have h3 : (a * 256 + c + 1) * 256 ^ l.length ≤ (a + 1) * 256 * 256 ^ l.length := Nat.mul_le_mul_right _ (by omega)
    rw [List.foldl_cons, List.length_cons, Nat.pow_succ]
    calc _ < _ := h1
      _ ≤ _ := h3
      _ = _ := by rw [Nat.mul_assoc, Nat.mul_comm 256]
theorem be_lt (l : List Nat) (h : ∀ c ∈ l, c < 256) : be l < 256 ^ l.length := by simpa [be] using fold_lt l h 0
theorem or_step (v c : Nat) (hv : v < 72057594037927936) (hc : c < 256) :
    bits .or .u64 (IntKind.u64.wrap ((v : Int) * 256)) (c : Int) = ((v * 256 + c : Nat) : Int) := by
  have e : IntKind.u64.wrap ((v : Int) * 256) = ((v * 256 : Nat) : Int) := by
    rw [IntKind.wrap_u64]; omega
  rw [e, Go.bits_or_u64_nat _ _ (by omega) (by omega), nat_join 8 (v * 256) c (by omega) (by omega)]
theorem take_step (l : List Nat) (k j : Nat) (h : k + j < l.length) : (l.drop k).take (j + 1) = (l.drop k).take j ++ [l.getD (k + j) 0] := by
  rw [List.take_succ_eq_append_getElem (by simp; omega)]
  simp [List.getD_eq_getElem?_getD, List.getElem?_eq_getElem h]
theorem be_step (l : List Nat) (k j : Nat) (h : k + j < l.length) : be ((l.drop k).take (j + 1)) = be ((l.drop k).take j) * 256 + l.getD (k + j) 0 := by
  rw [take_step l k j h, be_snoc]
theorem be_take_lt (l : List Nat) (k j : Nat) (h : ∀ c ∈ l, c < 256) (hj : k + j ≤ l.length) : be ((l.drop k).take j) < 256 ^ j := by
  have := be_lt ((l.drop k).take j) (fun c hc => h c (List.mem_of_mem_drop (List.mem_of_mem_take hc)))
  rwa [show ((l.drop k).take j).length = j from by simp; omega] at this
theorem getD_lt (l : List Nat) (h : ∀ c ∈ l, c < 256) (i : Nat) : l.getD i 0 < 256 := by
  rw [List.getD_eq_getElem?_getD]
  cases hi : l[i]? with
  | none => simp
  | some c => simpa using h c (List.mem_of_getElem? hi)
theorem pow_mono (j n : Nat) (h : j ≤ n) : 256 ^ j ≤ 256 ^ n := Nat.pow_le_pow_right (by decide) h
theorem ret_int {k : IntKind} {a b : Int} (h : a = b) : Ending.returned (.int k a) = .returned (.int k b) := by rw [h]
end Go.Proofs.Ythionipmohbnhaa
namespace Go.Proofs.Ythionipmohbnhaa
def u2 (zs : List Nat) (k : Nat) : Nat := zs.getD k 0 * 256 + zs.getD (k + 1) 0
theorem be_u2 (zs : List Nat) (k : Nat) (h : k + 2 ≤ zs.length) : be ((zs.drop k).take 2) = u2 zs k := by
  have e := be_step zs k 1 (by omega)
  have e0 := be_step zs k 0 (by omega)
  have z : be ((zs.drop k).take 0) = 0 := rfl
  rw [e, e0, z, Nat.add_zero]
  unfold u2
  omega
theorem u2_lt (zs : List Nat) (k : Nat) (hb : ∀ c ∈ zs, c < 256) : u2 zs k < 65536 := by
  have h1 := getD_lt zs hb k
  have h2 := getD_lt zs hb (k + 1)
  unfold u2; omega
theorem getD_take (zs : List Nat) (k i : Nat) (h : i < k) : (zs.take k).getD i 0 = zs.getD i 0 := by
  simp [List.getD_eq_getElem?_getD, h]
theorem u2_take (zs : List Nat) (k i : Nat) (h : i + 2 ≤ k) : u2 (zs.take k) i = u2 zs i := by
  unfold u2
  rw [getD_take _ _ _ (by omega), getD_take _ _ _ (by omega)]
end Go.Proofs.Ythionipmohbnhaa
namespace Go.Proofs.Ythionipmohbnhaa
open Go.RowKit
def Rd (w : World) (v : Value) (xs : List Value) : Prop :=
  ∃ a cap, v = .slice a xs.length cap ∧ xs.length ≤ cap ∧ cap ≤ maxLen ∧
    (xs = [] ∨ ∃ b off, a = some ⟨b, off, none⟩ ∧ b < w.heap.size ∧ ∀ i, i < xs.length → w.cell? ⟨b, off + i, none⟩ = xs[i]?)
def nus (k : IntKind) (zs : List Nat) : List Value := zs.map fun n : Nat => .int k (n : Int)
theorem nus_length (k : IntKind) (zs : List Nat) : (nus k zs).length = zs.length := by simp [nus]
theorem nus_append (k : IntKind) (a b : List Nat) : nus k (a ++ b) = nus k a ++ nus k b := by simp [nus]
theorem nus_nil (k : IntKind) (zs : List Nat) : nus k zs = [] ↔ zs = [] := by simp [nus]
theorem nus_get (k : IntKind) (zs : List Nat) (i : Nat) (h : i < zs.length) : (nus k zs)[i]? = some (.int k ((zs.getD i 0 : Nat) : Int)) := by
  simp [nus, List.getElem?_eq_getElem h, List.getD_eq_getElem?_getD]
theorem Rd.below {w w' : World} {v : Value} {xs : List Value} (h : Rd w v xs) (hb : Below w.heap.size w w') : Rd w' v xs := by
  obtain ⟨a, cap, rfl, h1, h2, h3⟩ := h
  refine ⟨a, cap, rfl, h1, h2, ?_⟩
  rcases h3 with h3 | ⟨b, off, rfl, hlt, hc⟩
  · exact .inl h3
  · exact .inr ⟨b, off, rfl, Nat.lt_of_lt_of_le hlt hb.size, fun i hi => by rw [hb.cell (p := ⟨b, off + i, none⟩) hlt]; exact hc i hi⟩
theorem Rd.own {w : World} {base : Nat} {e : TypeId} {v : Value} {n : Nat} {xs : List Value} (h : w.ownsRow base e 1 v n xs) : Rd w v xs := by
  have h0 := h
  obtain ⟨h1, h2⟩ := h
  rcases h2 with ⟨rfl, rfl⟩ | ⟨g, cap, cur, rfl, hg, hh, hn, hm, hs, ht⟩
  · obtain rfl : xs = [] := List.eq_nil_of_length_eq_zero (by simpa using h1)
    exact ⟨none, 0, rfl, by simp, by simp [maxLen], .inl rfl⟩
  · have hl : xs.length = n := by simpa using h1
    subst hl
    refine ⟨_, cap, rfl, hn, hm, ?_⟩
    by_cases hx : xs = []
    · exact .inl hx
    · refine .inr ⟨g, 0, rfl, ?_, fun i hi => ?_⟩
      · exact (Array.getElem?_eq_some_iff.1 hh).1
      · rw [Nat.zero_add]; exact h0.cellAt i (by omega)
theorem Rd.src {w : World} {a : Option Addr} {len cap : Nat} {xs : List Value} (h : Rd w (.slice a len cap) xs) (h0 : 0 < xs.length) :
    ∃ ad, a = some ad ∧ ∀ j v, xs[j]? = some v → w.cell? (ad.add j) = some v := by
  obtain ⟨a', cap', he, h1, h2, h3⟩ := h
  simp only [Value.slice.injEq] at he
  obtain ⟨rfl, rfl, rfl⟩ := he
  rcases h3 with rfl | ⟨b, off, rfl, hlt, hc⟩
  · simp at h0
  · refine ⟨_, rfl, fun j v hj => ?_⟩
    have hjl : j < xs.length := (List.getElem?_eq_some_iff.1 hj).1
    rw [show (⟨b, off, none⟩ : Addr).add j = ⟨b, off + j, none⟩ from by unfold Addr.add; split <;> simp_all, hc j hjl]
    exact hj
theorem own_heap {w : World} {base g n : Nat} {e : TypeId} {xs : List Value} (h : w.ownsRow base e 1 (.slice (some ⟨g, 0, none⟩) n n) n xs) :
    w.heap[g]? = some (.cells xs.toArray e (0, 0)) ∧ base ≤ g := by
  rcases h.2 with ⟨h', _⟩ | ⟨g', cap', cur, h', hb, hg, hnc, hcm, hcs, htake⟩
  · simp at h'
  · simp only [Value.slice.injEq, Option.some.injEq, Addr.mk.injEq, and_true, true_and] at h'
    obtain ⟨rfl, rfl⟩ := h'
    refine ⟨?_, hb⟩
    rw [hg, ← htake]
    rw [List.take_of_length_le (by simp; omega)]
theorem own_of_heap {w : World} {base g n : Nat} {e : TypeId} {xs : List Value} (h : w.heap[g]? = some (.cells xs.toArray e (0, 0))) (hb : base ≤ g) (hn : xs.length = n) (hm : n ≤ maxLen) :
    w.ownsRow base e 1 (.slice (some ⟨g, 0, none⟩) n n) n xs :=
  ⟨by simpa using hn, .inr ⟨g, n, xs.toArray, rfl, hb, h, Nat.le_refl _, hm, by simpa using hn, by simp [List.take_of_length_le, hn]⟩⟩
theorem oneCell_nus (k : IntKind) (zs : List Nat) : ∀ u ∈ nus k zs, u.oneCell' = true := by
  intro u hu
  obtain ⟨n, _, rfl⟩ := List.mem_map.1 hu
  rfl
theorem copy_grown {P : Program} {w : World} {ops : Array Oper} {rest : List Oper} {o : Oper} {a : Act} {Q : Exit → Act → World → Prop} (hgd : o.guard = none) (d s : Operand) (dT sT : TypeId)
    (ho : o.op = .call { callee := .builtin .copy, args := #[d, s], argTypes := #[dT, sT] }) (elem : TypeId) (hu : P.underlying dT = some (.slice elem)) (hsz : (P.info? elem).map (·.size) = some 1)
    (dp sp : Option Addr) (dLen dCap sLen sCap : Nat) (hd : a.eval d = .slice dp dLen dCap) (hs : a.eval s = .slice sp sLen sCap)
    (g off : Nat) (cur : List Value) (t : TypeId) (hg : w.heap[g]? = some (.cells cur.toArray t (0, 0))) (cs : List Value) (hn : cs.length = Nat.min sLen dLen)
    (hpos : 0 < cs.length → dp = some ⟨g, off, none⟩ ∧ ∃ ad, sp = some ad ∧ ∀ j v, cs[j]? = some v → w.cell? (ad.add j) = some v)
    (hfit : off + cs.length ≤ cur.length) (h1 : ∀ v ∈ cs, v.oneCell' = true)
    (h : ∀ w', Hid (w'.heap[g]? = some (.cells (splice cur off cs).toArray t (0, 0))) → w.grownBy w' (some g) → wpList P ops Q rest (a.put o.dst (goInt cs.length)) w') :
    wpList P ops Q (o :: rest) a w := by
  by_cases h0 : cs.length = 0
  · obtain rfl : cs = [] := List.eq_nil_of_length_eq_zero h0
    refine wpList_copy_nothing hgd d s dT sT ho elem hu hsz dp sp dLen dCap sLen sCap hd hs (by simpa using hn.symm) ?_
    exact h w (show _ = _ by simpa [splice] using hg) (World.grownBy.refl _ _)
  · obtain ⟨rfl, ad, rfl, hsrc⟩ := hpos (by omega)
    refine wpList_copy_own hgd d s dT sT ho elem hu hsz g off dLen dCap ad sLen sCap hd hs cur.toArray t hg cs hn hsrc (by simpa using hfit) h1 ?_
    refine h _ (show _ = _ by simpa [splice] using setRow_heap w g _ _ t _ hg) ⟨rfl, rfl, rfl, by simp [World.setRow], fun k _ hk => setRow_other w g k _ (fun e => hk (by rw [e]))⟩
end Go.Proofs.Ythionipmohbnhaa
namespace Go.Proofs.Ythionipmohbnhaa
open Go.RowKit
def tz (zs : List Nat) : Nat := 4 * (zs.getD 12 0 / 16)
def fs (p : Nat) (zs : List Nat) : Nat :=
  if p = 6 then (if zs.length < 20 then 1 else if tz zs < 20 ∨ zs.length < tz zs then 3 else 0)
  else if p = 17 then (if zs.length < 8 then 1 else if u2 zs 4 < 8 ∨ zs.length < u2 zs 4 then 3 else 0)
  else 6
theorem fs_yes (p : Nat) (zs : List Nat) (h : fs p zs = 0) : (p = 6 ∧ 20 ≤ zs.length ∧ 20 ≤ tz zs ∧ tz zs ≤ zs.length) ∨ (p = 17 ∧ 8 ≤ zs.length ∧ 8 ≤ u2 zs 4 ∧ u2 zs 4 ≤ zs.length) := by
  unfold fs at h
  by_cases h6 : p = 6
  · rw [if_pos h6] at h
    by_cases h1 : zs.length < 20
    · rw [if_pos h1] at h; omega
    · rw [if_neg h1] at h
      by_cases h2 : tz zs < 20 ∨ zs.length < tz zs
      · rw [if_pos h2] at h; omega
      · exact .inl ⟨h6, by omega, by omega, by omega⟩
  · rw [if_neg h6] at h
    by_cases h17 : p = 17
    · rw [if_pos h17] at h
      by_cases h1 : zs.length < 8
      · rw [if_pos h1] at h; omega
      · rw [if_neg h1] at h
        by_cases h2 : u2 zs 4 < 8 ∨ zs.length < u2 zs 4
        · rw [if_pos h2] at h; omega
        · exact .inr ⟨h17, by omega, by omega, by omega⟩
    · rw [if_neg h17] at h; omega
theorem fs_six (zs : List Nat) (h : 20 ≤ zs.length) (h2 : 20 ≤ tz zs) (h3 : tz zs ≤ zs.length) : fs 6 zs = 0 := by
  unfold fs; rw [if_pos rfl, if_neg (by omega), if_neg (by omega)]
theorem fs_udp (zs : List Nat) (h : 8 ≤ zs.length) (h2 : 8 ≤ u2 zs 4) (h3 : u2 zs 4 ≤ zs.length) : fs 17 zs = 0 := by
  unfold fs; rw [if_neg (by omega), if_pos rfl, if_neg (by omega), if_neg (by omega)]
def fl (p : Nat) (zs : List Nat) : Nat := if p = 6 then zs.getD 13 0 else 0
def hs7 (p : Nat) (zs : List Nat) : Array Value := if fs p zs = 0 then #[.int .u16 (u2 zs 0 : Nat), .int .u16 (u2 zs 2 : Nat), .int .u8 (fl p zs : Nat)] else #[.int .u16 0, .int .u16 0, .int .u8 0]
def rs7 (p : Nat) (zs : List Nat) : Array Value := if fs p zs = 0 then #[.int .i64 (u2 zs 0 : Nat), .int .i64 (u2 zs 2 : Nat), .int .u8 (fl p zs : Nat)] else #[.int .i64 0, .int .i64 0, .int .u8 0]
theorem hs7_size (p : Nat) (zs : List Nat) : (hs7 p zs).size = 3 := by unfold hs7; split <;> rfl
theorem rs7_size (p : Nat) (zs : List Nat) : (rs7 p zs).size = 3 := by unfold rs7; split <;> rfl
theorem hs7_all (p : Nat) (zs : List Nat) : (hs7 p zs).all (·.oneCell') = true := by unfold hs7; split <;> simp [Value.oneCell']
theorem rs7_all (p : Nat) (zs : List Nat) : (rs7 p zs).all (·.oneCell') = true := by unfold rs7; split <;> simp [Value.oneCell']
theorem heads (p : Nat) (zs : List Nat) (hb : ∀ c ∈ zs, c < 256) : ∃ a b c : Nat, a < 65536 ∧ b < 65536 ∧ c < 256 ∧ hs7 p zs = #[.int .u16 (a : Int), .int .u16 (b : Int), .int .u8 (c : Int)] ∧ rs7 p zs = #[.int .i64 (a : Int), .int .i64 (b : Int), .int .u8 (c : Int)] := by
  unfold hs7 rs7
  split
  · refine ⟨_, _, _, u2_lt zs 0 hb, u2_lt zs 2 hb, ?_, rfl, rfl⟩
    unfold fl; split
    · exact getD_lt zs hb 13
    · omega
  · exact ⟨0, 0, 0, by omega, by omega, by omega, rfl, rfl⟩
def sAt (p : Nat) : Nat := if p = 17 then 6 else 16
theorem sAt_le (p : Nat) : sAt p ≤ 16 := by unfold sAt; split <;> omega
theorem sAt_in (p : Nat) (zs : List Nat) (h : fs p zs = 0) : sAt p + 2 ≤ zs.length := by
  unfold sAt
  rcases fs_yes p zs h with ⟨rfl, h1, -, -⟩ | ⟨rfl, h1, -, -⟩
  · rw [if_neg (by omega)]; omega
  · rw [if_pos rfl]; omega
def wo (p : Nat) (zs : List Nat) : Bool := decide (p = 17 ∧ u2 zs 6 = 0)
end Go.Proofs.Ythionipmohbnhaa
namespace Go.Proofs.Ythionipmohbnhaa
open Go.RowKit
set_option maxRecDepth 10000 in
set_option maxHeartbeats 400000 in
theorem len64_16 (w : World) :
    Calls Try.prog 78 #[.int .u64 65535] w fun e w' => e = .returned (.int .i64 16) ∧ w = w' := by
  go_enter Try.func78, Try.ntmps78
  go_wp2_with fail
  go_ret
  exact ⟨by kernel_rfl, rfl⟩
set_option maxRecDepth 10000 in
set_option maxHeartbeats 400000 in
theorem size16_any (w : World) :
    Calls Try.prog 67 #[] w fun e w' => e = .returned (.int .i64 2) ∧ w = w' := by
  go_enter Try.func67, Try.ntmps67
  go_wp2_with (go_at_call 78; refine (len64_16 _).mono ?_; rintro e w' ⟨rfl, rfl⟩)
  go_ret
  exact ⟨rfl, rfl⟩
set_option maxHeartbeats 400000 in
theorem fits16_neg (a : Option Addr) (len cap : Nat) (at0 : Int) (w : World) (h0 : at0 < 0) :
    Calls Try.prog 66 #[.slice a len cap, .int .i64 at0] w fun e w' => e = .returned (.bool false) ∧ w = w' := by
  go_enter Try.func66, Try.ntmps66
  go_wp2_with (go_at_call 67; refine (size16_any _).mono ?_; rintro e w' ⟨rfl, rfl⟩)
  go_ret
  exact ⟨rfl, rfl⟩
set_option maxHeartbeats 400000 in
theorem fits16_pos (a : Option Addr) (len cap : Nat) (at0 : Int) (w : World) (hl : len ≤ maxLen) (h0 : 0 ≤ at0) :
    Calls Try.prog 66 #[.slice a len cap, .int .i64 at0] w fun e w' => e = .returned (.bool (decide (at0 ≤ (len : Int) - 2))) ∧ w = w' := by
  unfold maxLen at hl
  go_enter Try.func66, Try.ntmps66
  go_wp2_with (go_at_call 67; refine (size16_any _).mono ?_; rintro e w' ⟨rfl, rfl⟩)
  go_ret
  exact ⟨rfl, rfl⟩
set_option maxHeartbeats 400000 in
theorem get16_yes (v : Value) (k : Nat) (zs : List Nat) (w : World) (hr : Rd w v (nus .u8 zs)) (hb : ∀ c ∈ zs, c < 256) (hk : k + 2 ≤ zs.length) :
    Calls Try.prog 50 #[v, .int .i64 k] w fun e w' => e = .returned (.tuple #[.int .u16 (be ((zs.drop k).take 2) : Nat), .bool true]) ∧ w = w' := by
  obtain ⟨a, cap, rfl, hlc, hl, hx⟩ := hr
  rw [nus_length] at hlc hx ⊢
  rcases hx with hx | ⟨b, off, rfl, hbs, hc⟩
  · have : zs.length = 0 := by rw [(nus_nil _ _).1 hx]; rfl
    omega
  obtain ⟨len, hlen⟩ : ∃ len, len = zs.length := ⟨_, rfl⟩
  rw [← hlen] at hlc hc hk ⊢
  have HL := Lib.hid hlen
  have HC := Lib.hid hc
  have HB := Lib.hid hb
  clear hlen hc hbs hb
  unfold maxLen at hl
  have hfit : decide ((k : Int) ≤ (len : Int) - 2) = true := by simp; omega
  go_enter Try.func50, Try.ntmps50
  go_wp2_with (first
    | (go_at_call 66; refine (fits16_pos _ _ _ _ _ (by unfold maxLen; omega) (by omega)).mono ?_; rintro e w' ⟨rfl, rfl⟩; rw [hfit])
    | (go_at_call 67; refine (size16_any _).mono ?_; rintro e w' ⟨rfl, rfl⟩))
  go_loop [6, 20] (fun v i => ∃ j : Nat, j ≤ 2 ∧ i = .int .i64 j ∧ v = .int .u64 (be ((zs.drop k).take j) : Nat)) (fun _ i => 2 - (intOf i).toNat)
  case atStart => exact ⟨0, by omega, rfl, rfl⟩
  case round =>
    obtain ⟨j, hj, rfl, rfl⟩ := hrel
    clear hfit
    by_cases hlt : j < 2
    · have hcj := HC.out (k + j) (by omega)
      rw [nus_get _ _ _ (by rw [← HL.out]; omega), ← Nat.add_assoc] at hcj
      have hb := getD_lt zs HB.out (k + j)
      have hst := be_step zs k j (by rw [← HL.out]; omega)
      have hlt' := be_take_lt zs k j HB.out (by rw [← HL.out]; omega)
      have hpw := pow_mono j 7 (by omega)
      have hor := or_step (be ((zs.drop k).take j)) (zs.getD (k + j) 0) (by omega) hb
      rw [← hst] at hor
      obtain ⟨x, hx⟩ : ∃ x, x = zs.getD (k + j) 0 := ⟨_, rfl⟩
      rw [← hx] at hcj hor hb
      have HO := Lib.hid hor
      clear hx hor hst hlt' hpw
      go_wp2
      go_round
      case rel => exact ⟨j + 1, by omega, by go_num, by rw [HO.out]⟩
      case measure => simp [intOf]; omega
    · have hfin := be_take_lt zs k 2 HB.out (by rw [← HL.out]; omega)
      obtain rfl : j = 2 := by omega
      simp only [Nat.reducePow] at hfin
      go_wp2
      go_ret2
      exact ⟨rfl, rfl⟩
set_option maxHeartbeats 400000 in
theorem get16_no (a : Option Addr) (len cap : Nat) (at0 : Int) (w : World) (hl : len ≤ maxLen) (h : at0 < 0 ∨ (len : Int) < at0 + 2) :
    Calls Try.prog 50 #[.slice a len cap, .int .i64 at0] w fun e w' => e = .returned (.tuple #[.int .u16 0, .bool false]) ∧ w = w' := by
  by_cases h0 : at0 < 0
  · go_enter Try.func50, Try.ntmps50
    go_wp2_with (go_at_call 66; refine (fits16_neg _ _ _ _ _ (by omega)).mono ?_; rintro e w' ⟨rfl, rfl⟩)
    go_ret2
    exact ⟨rfl, rfl⟩
  · have hfit : decide (at0 ≤ (len : Int) - 2) = false := by simp; omega
    go_enter Try.func50, Try.ntmps50
    go_wp2_with (go_at_call 66; refine (fits16_pos _ _ _ _ _ hl (by omega)).mono ?_; rintro e w' ⟨rfl, rfl⟩; rw [hfit])
    go_ret2
    exact ⟨rfl, rfl⟩
end Go.Proofs.Ythionipmohbnhaa
namespace Go.Proofs.Ythionipmohbnhaa
open Go.RowKit
def netK (at0 kind : Nat) : Nat × Nat × Nat := if kind = 2048 ∨ kind = 34525 then (at0, kind, 0) else (0, 0, 2)
def net (zs : List Nat) : Nat × Nat × Nat :=
  if zs.length < 14 then (0, 0, 1)
  else if u2 zs 12 = 33024 then (if zs.length < 18 then (0, 0, 1) else netK 18 (u2 zs 16))
  else netK 14 (u2 zs 12)
theorem net_short (zs : List Nat) (h : zs.length < 14) : net zs = (0, 0, 1) := by simp [net, h]
theorem net_cut (zs : List Nat) (h : ¬ zs.length < 14) (hv : u2 zs 12 = 33024) (h18 : zs.length < 18) : net zs = (0, 0, 1) := by simp [net, h, h18, hv]
theorem net_tag (zs : List Nat) (h : ¬ zs.length < 14) (hv : u2 zs 12 = 33024) (h18 : ¬ zs.length < 18) : net zs = netK 18 (u2 zs 16) := by simp [net, h, h18, hv]
theorem net_bare (zs : List Nat) (h : ¬ zs.length < 14) (hv : u2 zs 12 ≠ 33024) : net zs = netK 14 (u2 zs 12) := by simp [net, h, hv]
theorem netK_no (n k : Nat) (h1 : k ≠ 2048) (h2 : k ≠ 34525) : netK n k = (0, 0, 2) := by simp [netK, h1, h2]
end Go.Proofs.Ythionipmohbnhaa
namespace Go.Proofs.Ythionipmohbnhaa
open Go.RowKit
theorem Try.info5 : (Try.prog.info? 5).map (fun i => (i.zero, i.size, i.bytes)) = some (some (.int .u8 0), 1, 1) := by kernel_rfl
theorem Try.size5 : (Try.prog.info? 5).map (·.size) = some 1 := by kernel_rfl
theorem size_made (n : Nat) : (madeCells #[Value.int .u8 0] n).toList.length = n := by rw [toList_madeCells_one]; simp
theorem splice_made (zs : List Nat) (n len : Nat) (h : len = zs.length) : splice (madeCells #[Value.int .u8 0] (len + n)).toList 0 (nus .u8 zs) = nus .u8 (zs ++ List.replicate n 0) := by
  rw [toList_madeCells_one, nus_append]
  subst h
  simp [splice, nus]
end Go.Proofs.Ythionipmohbnhaa
namespace Go.Proofs.Ythionipmohbnhaa
open Go.RowKit Go.Shelf
attribute [local go_sem] Oper.semAt_some
def even (zs : List Nat) : List Nat := zs ++ List.replicate (zs.length % 2) 0
theorem even_length (zs : List Nat) : (even zs).length = zs.length + zs.length % 2 := by simp [even]
set_option maxHeartbeats 400000 in
theorem words_any (va : Value) (zs : List Nat) (w : World) (hr : Rd w va (nus .u8 zs)) (hz : zs.length ≤ 140737488351232) :
    Calls Try.prog 73 #[va] w fun e w' => ∃ Be g, e = .returned (.func (.func 81) #[] #[.pointer (some ⟨Be, 0, none⟩)]) ∧ w.heap.size ≤ Be ∧ w.heap.size ≤ g ∧ Boxed w' Be 22 (.slice (some ⟨g, 0, none⟩) (even zs).length (even zs).length) ∧ w'.heap[g]? = some (.cells (nus .u8 (even zs)).toArray 5 (0, 0)) ∧ Below w.heap.size w w' := by
  obtain ⟨i0, hi, hz0, hz1, hz2⟩ := info_parts Try.info5
  obtain ⟨a, cap, rfl, hlc, hl, hx⟩ := hr
  rw [nus_length] at hlc hx ⊢
  obtain ⟨len, hlen⟩ : ∃ len, len = zs.length := ⟨_, rfl⟩
  rw [← hlen] at hlc hx hz ⊢
  have HL := Lib.hid hlen
  have HX := Lib.hid hx
  clear hlen hx
  unfold maxLen at hl
  go_enter Try.func73, Try.ntmps73
  have hbase : w.heap.size ≤ w.heap.size := Nat.le_refl _
  go_wp2_with (at_make; refine wpList_make_full _ rfl _ _ 22 rfl w.heap.size 5 i0 (.int .u8 0) 1 Try.underlying22 hi hz0 hz1 .i64 .i64 _ _ (len + len % 2) rfl rfl ?c1 ?c2 ?c3 ?c4 hbase ?_)
  case c1 => omega
  case c2 => omega
  case c3 => rw [hz2]; omega
  case c4 => unfold maxLen; omega
  intro w1 hown hgr
  have hb1 : Below w.heap.size w w1 := (Below.refl _ _).grown hgr (Nat.le_refl _) (fun k hk => by cases hk)
  obtain ⟨hh, _⟩ := own_heap hown
  have hsz1 : w.heap.size < w1.heap.size := (Array.getElem?_eq_some_iff.1 hh).1
  obtain ⟨sv, hsv⟩ : ∃ sv, sv = Value.slice (some ⟨w.heap.size, 0, none⟩) (len + len % 2) (len + len % 2) := ⟨_, rfl⟩
  have hh2 := (Below.heap_alloc w1 (.cells #[sv] 22) w.heap.size hsz1).trans hh
  have hb2 := hb1.alloc (Nat.le_of_lt hsz1) (.cells #[sv] 22)
  have hbx := Boxed.new w1 22 sv
  have hrd : Rd (w1.alloc (.cells #[sv] 22)) (.slice a len cap) (nus .u8 zs) := (show Rd w (.slice a len cap) (nus .u8 zs) from ⟨a, cap, by rw [nus_length, HL.out], by rw [nus_length, ← HL.out]; exact hlc, hl, by rw [nus_length, ← HL.out]; exact HX.out⟩).below hb2
  rw [hsv] at hh2 hb2 hbx hrd
  have hsrc := Lib.hid hrd.src
  have HH := Lib.hid hh2
  have HB2 := Lib.hid hb2
  have HBX := Lib.hid hbx
  clear hh hown hgr hb1 hh2 hb2 hbx hrd hsv
  go_wp2_with (with_reducible refine copy_grown rfl (.tmp 11) (.tmp 12) 22 22 rfl 5 Try.underlying22 Try.size5 _ _ _ _ _ _ rfl rfl w.heap.size 0 _ 5 HH.out (nus .u8 zs) ?d1 ?d2 ?d3 (oneCell_nus _ _) ?_)
  case d1 => rw [nus_length, ← HL.out]; exact (Nat.min_eq_left (by omega)).symm
  case d2 => exact hsrc.out
  case d3 => rw [nus_length, ← HL.out, size_made]; omega
  intro w2 h2 hg2
  have hh2 := h2.out
  rw [splice_made zs (len % 2) _ HL.out] at hh2
  have hbx2 := HBX.out.kept hg2 (by simp; omega)
  have hb3 := HB2.out.grown hg2 HB2.out.size (fun k hk => by cases hk; exact Nat.le_refl _)
  have HE : Hid (zs ++ List.replicate (len % 2) 0 = even zs) := by unfold even; rw [← HL.out]; exact rfl
  have HEL : Hid ((even zs).length = len + len % 2) := by unfold even; rw [List.length_append, List.length_replicate, ← HL.out]; exact rfl
  rw [HE.out] at hh2
  rw [← HEL.out] at hbx2
  have HO := Lib.hid hh2
  have HB3 := Lib.hid hb3
  have HX2 := Lib.hid hbx2
  clear hh2 h2 hsrc HH HX HB2 HBX hg2 hbx2 hb3
  go_wp2
  go_ret
  exact ⟨_, _, rfl, Nat.le_of_lt hsz1, Nat.le_refl _, HX2.out, HO.out, HB3.out⟩
def Mid (lo hi : Nat) (A B : World) : Prop := A.heap.size ≤ B.heap.size ∧ ∀ k, lo ≤ k → k < hi → B.heap[k]? = A.heap[k]?
theorem Mid.refl (lo hi : Nat) (A : World) : Mid lo hi A A := ⟨Nat.le_refl _, fun _ _ _ => rfl⟩
theorem Mid.trans {lo hi : Nat} {A B C : World} (h : Mid lo hi A B) (k : Mid lo hi B C) : Mid lo hi A C :=
  ⟨Nat.le_trans h.1 k.1, fun i h1 h2 => (k.2 i h1 h2).trans (h.2 i h1 h2)⟩
theorem Mid.below {lo hi : Nat} {A B : World} (h : Below hi A B) : Mid lo hi A B := ⟨h.size, fun k _ h2 => h.block k h2⟩
def upto {α : Type} (f : Nat → α) (k : Nat) : List α := (List.range k).map f
theorem upto_succ {α : Type} (f : Nat → α) (k : Nat) : upto f (k + 1) = upto f k ++ [f k] := by simp [upto, List.range_succ]
theorem upto_length {α : Type} (f : Nat → α) (k : Nat) : (upto f k).length = k := by simp [upto]
def wd (E : List Nat) (k : Nat) : Nat × Nat := (2 * k, be ((E.drop (2 * k)).take 2))
set_option maxRecDepth 100000 in
set_option maxHeartbeats 1000000 in
theorem it_in {α : Type} (f : Nat → α) (pr : α → Nat × Nat) (n : Nat) (hn : 1 ≤ n) (l Bs g lo hi L m : Nat) (E : List Nat) (hL : L = E.length) (hE : L = 2 * m) (hb : ∀ c ∈ E, c < 256) (hreach : L ≤ 140737488355328) (h1 : lo ≤ Bs) (h2 : Bs < hi) (h3 : lo ≤ g) (h4 : g < hi)
    (hf : ∀ k, pr (f k) = wd E k) (J Jx : List α → World → Prop)
    (hY : ∀ pre x W, J pre W → pre.length < m → YieldAt Fence.wide (n - 1) Try.prog l #[.int .i64 ((pr x).1 : Int), .int .u16 ((pr x).2 : Int)] W fun e W' =>
      (e = .returned (.bool true) ∧ J (pre ++ [x]) W' ∧ Mid lo hi W W') ∨ (e = .returned (.bool false) ∧ Jx (pre ++ [x]) W'))
    (W : World) (hBs : Boxed W Bs 22 (.slice (some ⟨g, 0, none⟩) L L)) (hg : W.heap[g]? = some (.cells (nus .u8 E).toArray 5 (0, 0))) (h0 : J [] W) :
    CallsIn Fence.wide n Try.prog 81 #[.func (.yield l) #[] #[], .pointer (some ⟨Bs, 0, none⟩)] W fun e W' => (∃ v, e = .returned v) ∧
      ((∃ ys, ys = upto f m ∧ J ys W') ∨ (∃ pre, (∃ k, k ≤ m ∧ pre = upto f k) ∧ Jx pre W')) := by
  have HE := Lib.hid hE
  have HL := Lib.hid hL
  have HY := Lib.hid hY
  have HB := Lib.hid hb
  have HG := Lib.hid hg
  have HBS := Lib.hid hBs
  have HF := Lib.hid hf
  clear hf hE hL hY hb hg hBs
  refine callsIn_of_wp Try.func81 rfl trivial ?_ rfl
  simp only [Try.ntmps81, List.size_toArray, List.length_cons, List.length_nil, Nat.reduceAdd, Nat.reduceSub, Array.replicate_succ, Array.replicate_zero, List.push_toArray, List.append_toArray, List.nil_append, List.cons_append]
  gi_wp2
  gi_loopw [3] (fun i wr => ∃ k p : Nat, k ≤ m ∧ p = 2 * k ∧ i = .int .i64 (p : Int) ∧ J (upto f k) wr ∧ Mid lo hi W wr)
    (fun i _ => L - (intOf i).toNat)
  case atStart => exact ⟨0, 0, Nat.zero_le _, rfl, rfl, h0, Mid.refl _ _ _⟩
  case round =>
    obtain ⟨k, p, hk, hp, rfl, hJs, hnx⟩ := hrel
    have hlen := HE.out
    have bx : Boxed wr Bs 22 (.slice (some ⟨g, 0, none⟩) L L) := (hnx.2 Bs h1 h2).trans HBS.out
    have hgr := (hnx.2 g h3 h4).trans HG.out
    have hrd : Rd wr (.slice (some ⟨g, 0, none⟩) L L) (nus .u8 E) := Rd.own (own_of_heap (base := 0) hgr (Nat.zero_le _) (by rw [nus_length, HL.out]) (by unfold maxLen; omega))
    have HR := Lib.hid hrd
    have hbc := bx.cell
    by_cases hlt : k < m
    · obtain ⟨fn, tmps, assign, body, hy, hR⟩ := HY.out _ (f k) wr hJs (by rw [upto_length]; exact hlt)
      have hxe : (pr (f k)).1 = p := by rw [HF.out, hp]; rfl
      have hxv : (pr (f k)).2 = be ((E.drop p).take 2) := by rw [HF.out, hp]; rfl
      rw [hxe, hxv] at hy
      have hpl : p + 2 ≤ L := by omega
      have hpe : p + 2 ≤ E.length := by rw [← HL.out]; exact hpl
      have hbe := be_take_lt E p 2 HB.out hpe
      have HPE := Lib.hid hpe
      have HP := Lib.hid hp
      have HXE := Lib.hid hxe
      clear hlen bx hgr hrd hp hpe hxe hxv
      gi_wp2_with fail
      refine ⟨trivial, ?_⟩
      refine (callsIn_wide.2 (get16_yes _ p E wr HR.out HB.out HPE.out)).mono ?_
      rintro e w' ⟨rfl, rfl⟩
      gi_wp2
      refine hR.mono ?_
      rintro e W3 (⟨rfl, hJ3, hk3⟩ | ⟨rfl, hJx3⟩)
      · gi_wp2
        go_roundw
        case rel => exact ⟨k + 1, p + 2, by omega, by have := HP.out; omega, by go_num, by rw [upto_succ]; exact hJ3, hnx.trans hk3⟩
        case measure => have := HP.out; simp [intOf]; omega
      · gi_wp2
        refine bodyPost_ret (results_none rfl _ _ _) rfl ?_
        exact ⟨⟨_, rfl⟩, .inr ⟨_, ⟨k + 1, by omega, (upto_succ _ _).symm⟩, hJx3⟩⟩
    · obtain rfl : k = m := by omega
      have hpl : L ≤ p := by omega
      clear hlen bx hgr hrd hp
      gi_wp2
      go_end0
      exact ⟨⟨_, rfl⟩, .inl ⟨_, rfl, hJs⟩⟩
theorem it_stops (n : Nat) (hn : 1 ≤ n) (Bs g lo hi m : Nat) (E : List Nat) (hE : E.length = 2 * m) (hb : ∀ c ∈ E, c < 256) (hreach : E.length ≤ 140737488355328) (h1 : lo ≤ Bs) (h2 : Bs < hi) (h3 : lo ≤ g) (h4 : g < hi) (w : World) (hw : hi ≤ w.heap.size)
    (hBs : Boxed w Bs 22 (.slice (some ⟨g, 0, none⟩) E.length E.length)) (hg : w.heap[g]? = some (.cells (nus .u8 E).toArray 5 (0, 0))) :
    SeqStopsK Fence.wide n Try.prog 81 #[.pointer (some ⟨Bs, 0, none⟩)] (fun x : Nat × Nat => #[Value.int .i64 (x.1 : Int), Value.int .u16 (x.2 : Int)]) (Mid lo hi) (fun ys => ys = upto (wd E) m) (fun pre => ∃ k, k ≤ m ∧ pre = upto (wd E) k) m w := fun l J Jx W hW _ _ hY h0 =>
  it_in (wd E) id n hn l Bs g lo hi E.length m E rfl hE hb hreach h1 h2 h3 h4 (fun _ => rfl) J Jx hY W ((hW.block Bs (by omega)).trans hBs) ((hW.block g (by omega)).trans hg) h0
def at2 (k : Nat) : Nat := 2 * k
theorem it_stopsN (n : Nat) (hn : 1 ≤ n) (Bs g lo hi m : Nat) (E : List Nat) (hE : E.length = 2 * m) (hb : ∀ c ∈ E, c < 256) (hreach : E.length ≤ 140737488355328) (h1 : lo ≤ Bs) (h2 : Bs < hi) (h3 : lo ≤ g) (h4 : g < hi) (w : World) (hw : hi ≤ w.heap.size)
    (hBs : Boxed w Bs 22 (.slice (some ⟨g, 0, none⟩) E.length E.length)) (hg : w.heap[g]? = some (.cells (nus .u8 E).toArray 5 (0, 0))) :
    SeqStopsK Fence.wide n Try.prog 81 #[.pointer (some ⟨Bs, 0, none⟩)] (fun k : Nat => #[Value.int .i64 (at2 k : Int), Value.int .u16 (be ((E.drop (at2 k)).take 2) : Int)]) (Mid lo hi) (fun ys => ys = upto id m) (fun pre => ∃ k, k ≤ m ∧ pre = upto id k) m w := fun l J Jx W hW _ _ hY h0 =>
  it_in id (wd E) n hn l Bs g lo hi E.length m E rfl hE hb hreach h1 h2 h3 h4 (fun _ => rfl) J Jx hY W ((hW.block Bs (by omega)).trans hBs) ((hW.block g (by omega)).trans hg) h0
theorem mid_t {lo hi : Nat} {A B C : World} (h : Mid lo hi A B) (k : Mid lo hi B C) : Mid lo hi A C := h.trans k
theorem mid_b {lo hi : Nat} {w : World} (hn : hi ≤ w.heap.size) (W : World) (l : Nat) (o o' : Obj) (hl : w.heap.size ≤ l) (h : W.heap[l]? = some o) (hc : o.isCells = false) (hw : o.isWalk = false) : Mid lo hi W (W.putObj l o') :=
  Mid.below (belowK_b hn W l o o' hl h hc hw)
end Go.Proofs.Ythionipmohbnhaa
namespace Go.Proofs.Ythionipmohbnhaa
open Go.RowKit
def gr (u : Nat) : Nat := if u = 0 then 0 else (u - 1) % 65535 + 1
theorem gr_small (u : Nat) (h : u ≤ 65535) : gr u = u := by unfold gr; split <;> omega
theorem gr_le (u : Nat) : gr u ≤ 65535 := by unfold gr; split <;> omega
theorem gr_step (u : Nat) (h : 65535 < u) : gr (u / 65536 + u % 65536) = gr u := by
  unfold gr
  rw [if_neg (by omega), if_neg (by omega)]
  omega
theorem gr_mod (u : Nat) : gr u % 65535 = u % 65535 := by unfold gr; split <;> omega
theorem gr_lt (u v : Nat) (h : gr v = gr u) (hv : v ≤ 65535) : v = gr u := by rw [← h, gr_small v hv]
def wt (p : Nat) : Nat := if p % 2 = 0 then 256 else 1
def wsp : Nat → List Nat → Nat
  | _, [] => 0
  | p, x :: r => x * wt p + wsp (p + 1) r
theorem wt_eq (p q : Nat) (h : p % 2 = q % 2) : wt p = wt q := by unfold wt; rw [h]
theorem wt_even (p : Nat) (h : p % 2 = 0) : wt p = 256 := by unfold wt; rw [if_pos h]
theorem wt_odd (p : Nat) (h : p % 2 = 1) : wt p = 1 := by unfold wt; rw [if_neg (by omega)]
theorem wsp_eq : ∀ (l : List Nat) (p q : Nat), p % 2 = q % 2 → wsp p l = wsp q l
  | [], _, _, _ => rfl
  | x :: r, p, q, h => by
    have := wsp_eq r (p + 1) (q + 1) (by omega)
    simp only [wsp]
    rw [wt_eq p q h, this]
theorem wsp_append : ∀ (a b : List Nat) (p : Nat), wsp p (a ++ b) = wsp p a + wsp (p + a.length) b
  | [], b, p => by simp [wsp]
  | x :: r, b, p => by
    have := wsp_append r b (p + 1)
    simp only [wsp, List.cons_append, List.length_cons]
    rw [this, show p + 1 + r.length = p + (r.length + 1) from by omega, Nat.add_assoc]
theorem wsp_zeros : ∀ (n p : Nat), wsp p (List.replicate n 0) = 0
  | 0, _ => rfl
  | n + 1, p => by simp only [List.replicate_succ, wsp, wsp_zeros n (p + 1), Nat.zero_mul]
theorem wsp_le : ∀ (l : List Nat) (p : Nat), (∀ c ∈ l, c < 256) → wsp p l ≤ 65280 * l.length
  | [], _, _ => by simp [wsp]
  | x :: r, p, h => by
    have h1 := wsp_le r (p + 1) (fun c hc => h c (by simp [hc]))
    have h2 := h x (by simp)
    simp only [wsp, List.length_cons]
    rcases (show wt p = 256 ∨ wt p = 1 from by unfold wt; split <;> simp) with e | e <;> rw [e] <;> omega
def w2 (E : List Nat) (j : Nat) : Nat := E.getD (2 * j) 0 * 256 + E.getD (2 * j + 1) 0
theorem be_two (E : List Nat) (k : Nat) (h : k + 2 ≤ E.length) : be ((E.drop k).take 2) = E.getD k 0 * 256 + E.getD (k + 1) 0 := by
  rw [be_step E k 1 (by omega), be_step E k 0 (by omega)]
  simp [be]
theorem w2_lt (E : List Nat) (j : Nat) (h : ∀ c ∈ E, c < 256) : w2 E j < 65536 := by
  have h1 := getD_lt E h (2 * j)
  have h2 := getD_lt E h (2 * j + 1)
  unfold w2
  omega
theorem take_snoc (E : List Nat) (k : Nat) (h : k < E.length) : E.take (k + 1) = E.take k ++ [E.getD k 0] := by
  rw [List.take_succ_eq_append_getElem h]
  simp [List.getD_eq_getElem?_getD, List.getElem?_eq_getElem h]
theorem wsp_take_one (E : List Nat) (k : Nat) (h : k < E.length) : wsp 0 (E.take (k + 1)) = wsp 0 (E.take k) + E.getD k 0 * wt k := by
  rw [take_snoc E k h, wsp_append]
  simp [wsp, Nat.min_eq_left (Nat.le_of_lt h)]
theorem wsp_two (E : List Nat) (j : Nat) (h : 2 * j < E.length) : wsp 0 (E.take (2 * (j + 1))) = wsp 0 (E.take (2 * j)) + w2 E j := by
  have h1 := wsp_take_one E (2 * j) h
  rw [wt_even _ (by omega)] at h1
  unfold w2
  by_cases h2 : 2 * j + 1 < E.length
  · have h3 := wsp_take_one E (2 * j + 1) h2
    rw [wt_odd _ (by omega)] at h3
    rw [show 2 * (j + 1) = 2 * j + 1 + 1 from by omega, h3, h1]
    omega
  · have e : E.getD (2 * j + 1) 0 = 0 := by rw [List.getD_eq_getElem?_getD, List.getElem?_eq_none (by omega)]; rfl
    have e2 : E.take (2 * (j + 1)) = E.take (2 * j + 1) := by rw [List.take_of_length_le (by omega), List.take_of_length_le (by omega)]
    rw [e2, h1, e]
    omega
theorem wsp_take_lt (E : List Nat) (k : Nat) (h : ∀ c ∈ E, c < 256) : wsp 0 (E.take k) ≤ 65280 * E.length := by
  have h1 := wsp_le (E.take k) 0 (fun c hc => h c (List.mem_of_mem_take hc))
  have h2 := List.length_take_le' k E
  omega
def upd (old f t : Nat) : Nat := 65535 - gr ((65535 - old) + (65535 - f) + t)
theorem upd_le (old f t : Nat) : upd old f t ≤ 65535 := by unfold upd; omega
theorem upd_mod (old f t : Nat) (ho : old ≤ 65535) (hf : f ≤ 65535) : (upd old f t + t) % 65535 = (old + f) % 65535 := by
  have h1 := gr_mod ((65535 - old) + (65535 - f) + t)
  have h2 := gr_le ((65535 - old) + (65535 - f) + t)
  unfold upd
  omega
def chg (old : Nat) (F T : List Nat) : Nat → Nat
  | 0 => old
  | k + 1 => upd (chg old F T k) (w2 F k) (w2 T k)
theorem chg_le (old : Nat) (F T : List Nat) (h : old ≤ 65535) : ∀ k, chg old F T k ≤ 65535
  | 0 => h
  | _ + 1 => upd_le _ _ _
theorem chg_mod (old : Nat) (F T : List Nat) (h : old ≤ 65535) (hF : ∀ c ∈ F, c < 256) : ∀ k, 2 * k ≤ F.length → 2 * k ≤ T.length →
    (chg old F T k + wsp 0 (T.take (2 * k))) % 65535 = (old + wsp 0 (F.take (2 * k))) % 65535
  | 0, _, _ => by simp [chg, wsp]
  | k + 1, h1, h2 => by
    have hi := chg_mod old F T h hF k (by omega) (by omega)
    have hu := upd_mod (chg old F T k) (w2 F k) (w2 T k) (chg_le old F T h k) (by have := w2_lt F k hF; omega)
    rw [wsp_two F k (by omega), wsp_two T k (by omega)]
    simp only [chg]
    omega
def ck (b : List Nat) : Nat := 65535 - gr (wsp 0 b)
theorem ck_le (b : List Nat) : ck b ≤ 65535 := by unfold ck; omega
theorem ck_mod (b : List Nat) : (ck b + wsp 0 b) % 65535 = 0 := by
  have h1 := gr_mod (wsp 0 b)
  have h2 := gr_le (wsp 0 b)
  unfold ck
  omega
end Go.Proofs.Ythionipmohbnhaa
namespace Go.Proofs.Ythionipmohbnhaa
open Go.RowKit
theorem round_math (k n : Int) (h : 0 < n) : (k.tmod n + n) % n = k % n := by
  rw [Int.add_emod_right, Int.tmod_eq_emod]
  split
  · simp
  · rw [show ((n.natAbs : Int)) = n from by omega, Int.sub_emod_right, Int.emod_emod_of_dvd _ (Int.dvd_refl n)]
set_option maxHeartbeats 400000 in
theorem round_any (k n : Int) (w : World) (h : 0 < n) (h2 : n ≤ 4611686018427387903) :
    Calls Try.prog 17 #[.int .i64 k, .int .i64 n] w fun e w' => e = .returned (.int .i64 (k % n)) ∧ w = w' := by
  have a1 := Int.lt_tmod_of_pos k h
  have a2 := Int.tmod_lt_of_pos k h
  have hm := Lib.hid (round_math k n h)
  go_enter Try.func17, Try.ntmps17
  go_wp2
  go_ret
  exact ⟨ret_int (by rw [← hm.out]), rfl⟩
end Go.Proofs.Ythionipmohbnhaa
namespace Go.Proofs.Ythionipmohbnhaa
open Go.RowKit Go.Shelf
theorem low16 (x : Nat) (h : x < 18446744073709551616) : bits .and .u64 (x : Int) 65535 = ((x % 65536 : Nat) : Int) := by
  rw [show (65535 : Int) = ((65535 : Nat) : Int) from rfl, Go.bits_and_u64_nat _ _ h (by omega), show 65535 = 2 ^ 16 - 1 from rfl, Nat.and_two_pow_sub_one_eq_mod]
theorem go_on (x : Nat) (h : x < 18446744073709551616) : IntKind.u64.wrap ((x : Int) / 65536 + bits .and .u64 (x : Int) 65535) = ((x / 65536 + x % 65536 : Nat) : Int) := by
  rw [low16 x h, IntKind.wrap_u64]; omega
set_option maxHeartbeats 400000 in
theorem rnd_any (u : Nat) (w : World) (h : u < 18446744073709551616) :
    Calls Try.prog 82 #[.int .u64 (u : Int)] w fun e w' => e = .returned (.int .u16 (gr u : Nat)) ∧ w = w' := by
  go_enter Try.func82, Try.ntmps82
  go_wp2
  go_loop [0] (fun v => ∃ x : Nat, gr x = gr u ∧ x < 18446744073709551616 ∧ v = .int .u64 x) (fun v => (intOf v).toNat)
  case atStart => exact ⟨u, rfl, h, rfl⟩
  case round =>
    obtain ⟨x, hg, hx, rfl⟩ := hrel
    have HG := Lib.hid hg
    clear hg
    by_cases hlt : 65535 < x
    · have hst := Lib.hid (gr_step x hlt)
      have ho := Lib.hid (go_on x hx)
      go_wp2
      go_round
      case rel => exact ⟨x / 65536 + x % 65536, by rw [hst.out, HG.out], by omega, by rw [ho.out]⟩
      case measure => rw [ho.out]; simp [intOf]; omega
    · have hfin := Lib.hid (gr_lt u x HG.out (by omega))
      go_wp2
      go_ret
      exact ⟨by rw [← hfin.out]; rfl, rfl⟩
theorem not16 (o : Nat) (h : o < 65536) : bits BinOp.xor IntKind.u16 IntKind.u16.max (o : Int) = ((65535 - o : Nat) : Int) := by
  rw [show IntKind.u16.max = ((65535 : Nat) : Int) from rfl, u16_xor_nat _ _ (by omega) h]
  congr 1
  apply Nat.eq_of_testBit_eq
  intro i
  rw [show 65535 - o = 2 ^ 16 - (o + 1) from by omega, Nat.testBit_two_pow_sub_succ (by omega), Nat.testBit_xor, show (65535 : Nat) = 2 ^ 16 - 1 from rfl, Nat.testBit_two_pow_sub_one]
  by_cases hi : i < 16
  · simp [hi]
  · have : o.testBit i = false := Nat.testBit_lt_two_pow (Nat.lt_of_lt_of_le h (Nat.pow_le_pow_right (n := 2) (by decide) (show 16 ≤ i by omega)))
    simp [hi, this]
theorem upd_sum (o f t : Nat) (ho : o < 65536) (hf : f < 65536) (ht : t < 65536) :
    IntKind.u64.wrap (IntKind.u64.wrap (IntKind.u64.wrap (bits BinOp.xor IntKind.u16 IntKind.u16.max (o : Int)) + IntKind.u64.wrap (bits BinOp.xor IntKind.u16 IntKind.u16.max (f : Int))) + (t : Int)) = (((65535 - o) + (65535 - f) + t : Nat) : Int) := by
  rw [not16 o ho, not16 f hf]
  simp only [IntKind.wrap_u64]
  omega
end Go.Proofs.Ythionipmohbnhaa
namespace Go.Proofs.Ythionipmohbnhaa
open Go.RowKit Go.Shelf
attribute [local go_sem] Oper.semAt_some
def nw (zs : List Nat) : Nat := (zs.length + 1) / 2
theorem even_two (zs : List Nat) : (even zs).length = 2 * nw zs := by rw [even_length]; unfold nw; omega
theorem even_lt (zs : List Nat) (h : ∀ c ∈ zs, c < 256) : ∀ c ∈ even zs, c < 256 := by
  intro c hc
  rcases List.mem_append.1 hc with hc | hc
  · exact h c hc
  · have := (List.mem_replicate.1 hc).2; omega
def tot (l : List (Nat × Nat)) : Nat := (l.map Prod.snd).sum
def SumI (b : Nat) (start : Nat) (w0 : World) (l : List (Nat × Nat)) (W : World) : Prop :=
  Boxed W b 85 (.int .u64 (IntKind.u64.wrap ((start : Int) + (tot l : Int)))) ∧ b + 1 ≤ W.heap.size ∧ Below b w0 W
theorem SumI.own (b B : Nat) (start : Nat) (w0 : World) (h : b ≤ w0.heap.size) (hB : b ≤ B) : OwnFrom B (SumI b start w0) :=
  OwnFrom.and (Own.from (boxed_own b 85 (fun l => .int .u64 (IntKind.u64.wrap ((start : Int) + (tot l : Int))))) _) (OwnFrom.and (fun _ _ _ _ hs hg _ => Nat.le_trans hs hg.size) (ownFrom_below h hB))
theorem tot_snoc (l : List (Nat × Nat)) (x : Nat × Nat) : tot (l ++ [x]) = tot l + x.2 := by simp [tot]
theorem tot_upto (zs : List Nat) : ∀ k, k ≤ nw zs → tot (upto (wd (even zs)) k) = wsp 0 ((even zs).take (2 * k))
  | 0, _ => by simp [tot, upto, wsp]
  | k + 1, h => by
    have he := even_two zs
    rw [upto_succ, tot_snoc, tot_upto zs k (by omega), wsp_two _ _ (by omega)]
    unfold wd w2
    rw [be_two _ _ (by omega)]
theorem wsp_even (zs : List Nat) : wsp 0 (even zs) = wsp 0 zs := by unfold even; rw [wsp_append, wsp_zeros]; omega
theorem tot_all (zs : List Nat) : tot (upto (wd (even zs)) (nw zs)) = wsp 0 zs := by
  rw [tot_upto zs _ (Nat.le_refl _), List.take_of_length_le (by rw [even_two]; exact Nat.le_refl _), wsp_even]
theorem start_wrap (start : Nat) (h : start < 4294967296) : IntKind.u64.wrap ((start : Int) + (tot [] : Int)) = (start : Int) := by
  rw [IntKind.wrap_u64]; simp [tot]; omega
theorem tot_wrap (s t x : Nat) : IntKind.u64.wrap (IntKind.u64.wrap ((s : Int) + (t : Int)) + IntKind.u64.wrap (x : Int)) = IntKind.u64.wrap ((s : Int) + ((t + x : Nat) : Int)) := by
  simp only [IntKind.wrap_u64]; omega
theorem sum_wrap (s t : Nat) (h : s < 4294967296) (h2 : t < 18446744069414584320) : IntKind.u64.wrap ((s : Int) + (t : Int)) = ((s + t : Nat) : Int) := by
  rw [IntKind.wrap_u64]; omega
theorem sum_small (zs : List Nat) (hz : zs.length ≤ 140737488351232) (hb : ∀ c ∈ zs, c < 256) : wsp 0 zs < 18446744069414584320 := by
  have := wsp_le zs 0 hb; omega
theorem mid_set {lo hi : Nat} (A : World) (k : Nat) (v : Value) (h : k < lo) : Mid lo hi A (A.setCell ⟨k, 0, none⟩ v) :=
  ⟨by simp [World.setCell], fun j h1 _ => Below.heap_setCell A ⟨k, 0, none⟩ v j (show j ≠ k by omega)⟩
set_option maxRecDepth 100000 in
set_option maxHeartbeats 2000000 in
theorem sum_any (va : Value) (zs : List Nat) (start : Nat) (w : World) (hr : Rd w va (nus .u8 zs)) (hz : zs.length ≤ 140737488351232) (hb : ∀ c ∈ zs, c < 256) (hs : start < 4294967296) :
    Calls Try.prog 80 #[va, .int .u32 (start : Int)] w fun e w' => e = .returned (.int .u16 (gr (start + wsp 0 zs) : Nat)) ∧ Below w.heap.size w w' := by
  refine (callsIn_wide (n := 3)).1 ?_
  refine callsIn_of_wp_marks Try.func80 rfl trivial ?_ rfl
  simp only [Try.ntmps80, List.size_toArray, List.length_cons, List.length_nil, Nat.reduceAdd, Nat.reduceSub, Array.replicate_succ, Array.replicate_zero, List.push_toArray, List.append_toArray, List.nil_append, List.cons_append]
  have hb3 : Below w.heap.size w (w.alloc (.cells #[.int .u64 (start : Int)] 85)) := (Below.refl _ w).alloc (Nat.le_refl _) _
  have x1 := Boxed.new w 85 (.int .u64 (start : Int))
  gi_wp2_with fail
  refine ⟨trivial, ?_⟩
  generalize hW : w.alloc (.cells #[.int .u64 (start : Int)] 85) = W at hb3 x1 ⊢
  have hWs : W.heap.size = w.heap.size + 1 := by rw [← hW]; simp
  clear hW
  refine (callsIn_wide.2 (words_any va zs W (hr.below hb3) hz)).mono ?_
  rintro e W0 ⟨Be, g, rfl, h1, h2, h3, h4, h5⟩
  gi_wp2_with fail
  have hLE := even_two zs
  have hEb := even_lt zs hb
  have hz2 : (even zs).length ≤ 140737488355328 := by rw [even_length]; omega
  have hW0 := h5.size
  have hgs : g < W0.heap.size := (Array.getElem?_eq_some_iff.1 h4).1
  have hBs := h3.lt
  have hwW0 : Below w.heap.size w W0 := hb3.trans (h5.mono (by omega))
  have g0 : SumI w.heap.size start w [] W0 := ⟨((h5.block _ (by omega)).trans x1).trans (by rw [start_wrap start hs]), by omega, hwW0⟩
  refine wpIn_rangeFunc_ownG rfl (by omega) (gf := 81) (lb := #[.pointer (some ⟨Be, 0, none⟩)]) rfl trivial (enters_of Try.func81 (by kernel_rfl) rfl)
    (it_stops 2 (by omega) Be g W.heap.size W0.heap.size (nw zs) (even zs) hLE hEb hz2 h1 hBs h2 hgs W0 (Nat.le_refl _) h3 h4) mid_t (mid_b (Nat.le_refl _)) (Below.refl _ _) (fun _ => rfl)
    (SumI w.heap.size start w)
    (fun _ _ _ => False)
    (SumI.own _ _ _ _ (Nat.le_refl _) (by omega))
    (fun c s A B row hs hg hr => hs)
    g0
    (fun x => { tmps := #[va, .int .u32 (start : Int), undef, undef, .int .u16 0, .pointer (some ⟨w.heap.size, 0, none⟩), undef, .int .u16 (x.2 : Int), .int .u32 (start : Int), .int .u64 (start : Int), va, .func (.func 81) #[] #[.pointer (some ⟨Be, 0, none⟩)], .int .i64 (x.1 : Int), .int .u16 (x.2 : Int), undef, undef, undef, undef, undef, undef], defers := [] }) ?assign ?body ?done ?stop
  case assign =>
    intro l x W' K hK
    gi_wp2
    exact hK
  case body =>
    rintro l pre x W' hG hlt
    obtain ⟨bx, hsz, hB⟩ := hG
    have c1 := bx.cell
    have cf := bx.frozen
    clear hr hz hb hs hb3 x1 h1 h2 h3 h4 h5 hLE hEb hz2 hgs hBs hwW0 g0
    gi_wp2
    have htw := Lib.hid (tot_wrap start (tot pre) x.2)
    refine ⟨KeepsOthers.from (KeepsOthers.setCell _ _ _) _, mid_set _ _ _ (by omega), ?_, ?_, hB.setCell (Nat.le_refl _) _⟩
    · refine (bx.set _).trans ?_
      rw [htw.out, tot_snoc]
    · simpa using hsz
  case done =>
    rintro D ys Wn hD hys ⟨bx, hsz, hB⟩ hK
    have hv : IntKind.u64.wrap ((start : Int) + (tot ys : Int)) = ((start + wsp 0 zs : Nat) : Int) := by
      rw [hys, tot_all, sum_wrap _ _ hs (sum_small zs hz hb)]
    have hlt : start + wsp 0 zs < 18446744073709551616 := by have := sum_small zs hz hb; omega
    rw [hv] at bx
    obtain ⟨u, hu⟩ : ∃ u, u = start + wsp 0 zs := ⟨_, rfl⟩
    rw [← hu] at bx hlt
    have HU := Lib.hid hu
    have c1 := bx.cell
    clear hu hv hys hr hz hb hs hb3 x1 h1 h2 h3 h4 h5 hLE hEb hz2 hgs hBs hwW0 g0
    gi_wp2_with fail
    refine ⟨trivial, ?_⟩
    refine (callsIn_wide.2 (rnd_any u _ hlt)).mono ?_
    rintro e w' ⟨rfl, rfl⟩
    gi_wp2
    refine ⟨by simp, .inl ⟨_, _, rfl, run_takeDeferred hK, ?_⟩⟩
    refine ⟨.int .u16 ((gr u : Nat) : Int), by simp [results, Try.f80, go_sem], ?_, hB.trans (belowK_b (w := w) (Nat.le_refl _) _ D _ _ (by omega) hK rfl rfl)⟩
    rw [HU.out]
  case stop => 
    rintro D c l Wn hD hk h
    exact h.elim
theorem not_gr (u : Nat) : bits BinOp.xor IntKind.u16 IntKind.u16.max ((gr u : Nat) : Int) = ((65535 - gr u : Nat) : Int) := not16 _ (by have := gr_le u; omega)
end Go.Proofs.Ythionipmohbnhaa
namespace Go.Proofs.Ythionipmohbnhaa
open Go.RowKit
theorem row_rd {k : IntKind} {w : World} {a : Option Addr} {len cap : Nat} {zs : List Int} (B : Nat) (hB : ∀ n : Int, (Lit.int k n).wf = true → 0 ≤ n ∧ n < B)
    (h : (a = none ∧ len = 0 ∧ cap = 0 ∧ zs = []) ∨ ∃ x, a = some x ∧ len ≤ cap ∧ cap ≤ maxLen ∧ zs.length = cap ∧ (∀ i, i < zs.length → w.cell? (x.add i) = some (.int k (zs.getD i 0))) ∧ ∀ n ∈ zs, (Lit.int k n).wf = true) :
    ∃ bs : List Nat, bs.length = len ∧ Rd w (.slice a len cap) (nus k bs) ∧ ∀ c ∈ bs, c < B := by
  rcases h with ⟨rfl, rfl, rfl, rfl⟩ | ⟨x, rfl, hl, hm, hz, hc, hw⟩
  · exact ⟨[], rfl, ⟨none, 0, rfl, by simp [nus], by simp [maxLen], .inl rfl⟩, fun c hc => by cases hc⟩
  · have hlen : ((zs.take len).map Int.toNat).length = len := by simp; omega
    refine ⟨(zs.take len).map Int.toNat, hlen, ⟨some x, cap, by rw [nus_length, hlen], by rw [nus_length, hlen]; exact hl, hm, ?_⟩, ?_⟩
    · by_cases h0 : len = 0
      · exact .inl ((nus_nil _ _).2 (by subst h0; simp))
      · obtain ⟨b, off, spot⟩ := x
        have h00 := hc 0 (by omega)
        have hspot : spot = none := by simpa [Addr.add] using World.cell?_spot h00
        subst hspot
        refine .inr ⟨b, off, rfl, ?_, fun i hi => ?_⟩
        · have := World.block_lt_of_cell? w _ h00
          simpa [Addr.add] using this
        · rw [nus_length, hlen] at hi
          have h1 := hc i (by omega)
          rw [nus_get _ _ _ (by rw [hlen]; exact hi)]
          have hadd : (⟨b, off, none⟩ : Addr).add i = ⟨b, off + i, none⟩ := by unfold Addr.add; split <;> simp_all
          rw [hadd] at h1
          rw [h1]
          have hget : zs.getD i 0 = zs[i]'(by omega) := by simp [List.getD_eq_getElem?_getD, List.getElem?_eq_getElem (show i < zs.length by omega)]
          have hpos := (hB _ (hw _ (List.getElem_mem (show i < zs.length by omega)))).1
          rw [hget]
          congr 2
          simp only [List.getD_eq_getElem?_getD, List.getElem?_map, List.getElem?_take, if_pos hi, List.getElem?_eq_getElem (show i < zs.length by omega), Option.map_some, Option.getD_some]
          omega
    · intro c hc
      obtain ⟨n, hn, rfl⟩ := List.mem_map.1 hc
      have := hB n (hw n (List.mem_of_mem_take hn))
      omega
theorem rd_nil (w : World) (k : IntKind) : Rd w (.slice none 0 0) (nus k []) := ⟨none, 0, rfl, by simp [nus], by simp [maxLen], .inl rfl⟩
theorem rd_shape {w : World} {v : Value} {k : IntKind} {bs : List Nat} (h : Rd w v (nus k bs)) : ∃ a cap, v = .slice a bs.length cap ∧ bs.length ≤ cap ∧ cap ≤ maxLen := by
  obtain ⟨a, cap, rfl, h1, h2, _⟩ := h
  rw [nus_length] at h1 ⊢
  exact ⟨a, cap, rfl, h1, h2⟩
theorem Rd.cells {w : World} {a : Option Addr} {len cap : Nat} {k : IntKind} {bs : List Nat} (h : Rd w (.slice a len cap) (nus k bs)) (h0 : 0 < len) :
    ∃ b off, a = some ⟨b, off, none⟩ ∧ ∀ i, i < len → w.cell? ⟨b, off + i, none⟩ = some (.int k ((bs.getD i 0 : Nat) : Int)) := by
  obtain ⟨a', cap', e, _, _, h⟩ := h
  simp only [Value.slice.injEq] at e
  obtain ⟨rfl, rfl, rfl⟩ := e
  rw [nus_length] at h0 h
  rcases h with h | ⟨b, off, rfl, _, hc⟩
  · rw [(nus_nil _ _).1 h] at h0; cases h0
  · exact ⟨b, off, rfl, fun i hi => by rw [nus_length] at hi; rw [hc i hi, nus_get _ _ _ hi]⟩
theorem Rd.front {w : World} {a : Option Addr} {len cap : Nat} {k : IntKind} {bs : List Nat} (h : Rd w (.slice a len cap) (nus k bs)) (m : Nat) (hm : m ≤ bs.length) : Rd w (.slice a m cap) (nus k (bs.take m)) := by
  obtain ⟨a', cap', e, h1, h2, h3⟩ := h
  simp only [Value.slice.injEq] at e
  obtain ⟨rfl, rfl, rfl⟩ := e
  rw [nus_length] at h1 h3
  have hl : (nus k (bs.take m)).length = m := by rw [nus_length]; simp; omega
  refine ⟨_, _, by rw [hl], by rw [hl]; omega, h2, ?_⟩
  rcases h3 with h3 | ⟨b', off', he, hb, hcc⟩
  · obtain rfl := (nus_nil _ _).1 h3
    exact .inl (by simp [nus])
  · refine .inr ⟨b', off', he, hb, fun i hi => ?_⟩
    rw [hl] at hi
    rw [hcc i (by omega)]
    simp [nus, hi]
theorem Rd.sub {w : World} {b off len cap : Nat} {k : IntKind} {bs : List Nat} (h : Rd w (.slice (some ⟨b, off, none⟩) len cap) (nus k bs)) (j m : Nat) (hc : j + m ≤ len) : Rd w (.slice (some ⟨b, off + j, none⟩) m (cap - j)) (nus k ((bs.drop j).take m)) := by
  obtain ⟨a', cap', e, h1, h2, h3⟩ := h
  simp only [Value.slice.injEq] at e
  obtain ⟨e1, rfl, rfl⟩ := e
  rw [nus_length] at h1 h3 hc
  have hl : (nus k ((bs.drop j).take m)).length = m := by rw [nus_length]; simp; omega
  refine ⟨_, _, by rw [hl], by rw [hl]; omega, by omega, ?_⟩
  rcases h3 with h3 | ⟨b', off', he, hb, hcc⟩
  · obtain rfl := (nus_nil _ _).1 h3
    exact .inl (by simp [nus])
  · rw [← e1] at he
    cases he
    refine .inr ⟨b, off + j, rfl, hb, fun i hi => ?_⟩
    rw [hl] at hi
    rw [Nat.add_assoc, hcc (j + i) (by omega)]
    simp [nus, hi]
theorem wf_u8 (n : Int) (h : (Lit.int .u8 n).wf = true) : 0 ≤ n ∧ n < (256 : Nat) := by have := bounds_u8 h; omega
end Go.Proofs.Ythionipmohbnhaa
namespace Go.Proofs.Ythionipmohbnhaa
open Go.RowKit Go.Shelf
attribute [local go_sem] Oper.semAt_some
def chgL (old : Nat) (F T : List Nat) (ks : List Nat) : Nat := ks.foldl (fun o k => upd o (w2 F k) (w2 T k)) old
theorem chgL_snoc (old : Nat) (F T ks : List Nat) (k : Nat) : chgL old F T (ks ++ [k]) = upd (chgL old F T ks) (w2 F k) (w2 T k) := by simp [chgL]
theorem chgL_upto (old : Nat) (F T : List Nat) : ∀ m, chgL old F T (upto id m) = chg old F T m
  | 0 => rfl
  | m + 1 => by rw [upto_succ, chgL_snoc, chgL_upto old F T m]; rfl
theorem chgL_le (old : Nat) (F T : List Nat) (h : old ≤ 65535) (ks : List Nat) : chgL old F T ks ≤ 65535 := by
  rcases List.eq_nil_or_concat ks with rfl | ⟨l, k, rfl⟩
  · exact h
  · rw [List.concat_eq_append, chgL_snoc]; exact upd_le _ _ _
theorem be_w2 (E : List Nat) (m k : Nat) (h : E.length = 2 * m) : be ((E.drop (2 * k)).take 2) = w2 E k := by
  by_cases hk : k < m
  · rw [be_two _ _ (by omega)]; rfl
  · rw [List.drop_eq_nil_of_le (by omega)]
    unfold w2
    rw [List.getD_eq_getElem?_getD, List.getD_eq_getElem?_getD, List.getElem?_eq_none (by omega), List.getElem?_eq_none (by omega)]
    rfl
theorem even_same (F : List Nat) (h : F.length % 2 = 0) : even F = F := by unfold even; rw [h]; simp
def ChgI (b B2 : Nat) (old : Nat) (F T : List Nat) (vt : Value) (w0 : World) (l : List Nat) (W : World) : Prop :=
  Boxed W b 26 (.int .u16 (chgL old F T l : Int)) ∧ Boxed W B2 22 vt ∧ b + 2 ≤ W.heap.size ∧ Below b w0 W
theorem ChgI.own (b B2 B : Nat) (old : Nat) (F T : List Nat) (vt : Value) (w0 : World) (h : b ≤ w0.heap.size) (hB : b ≤ B) : OwnFrom B (ChgI b B2 old F T vt w0) :=
  OwnFrom.and (Own.from (boxed_own b 26 (fun l => .int .u16 (chgL old F T l : Int))) _) (OwnFrom.and (Own.from (boxed_own B2 22 (fun _ => vt)) _) (OwnFrom.and (fun _ _ _ _ hs hg _ => Nat.le_trans hs hg.size) (ownFrom_below h hB)))
end Go.Proofs.Ythionipmohbnhaa
namespace Go.Proofs.Ythionipmohbnhaa
open Go.RowKit
theorem or_i64 (x y : Nat) (hx : x < 4294967296) (hy : y < 4294967296) : bits .or .i64 (x : Int) (y : Int) = ((x ||| y : Nat) : Int) := by
  have key : (BitVec.ofInt 64 (x : Int) ||| BitVec.ofInt 64 (y : Int)).toNat = x ||| y := by
    rw [BitVec.toNat_or, BitVec.toNat_ofInt, BitVec.toNat_ofInt]
    congr 1 <;> omega
  have hl : x ||| y < 4294967296 := Nat.or_lt_two_pow (n := 32) hx hy
  show IntKind.i64.wrap ((BitVec.ofInt 64 (x : Int) ||| BitVec.ofInt 64 (y : Int)).toNat : Nat) = _
  rw [key, IntKind.wrap_i64]
  omega
theorem be_or (p q : Nat) (hp : p < 256) (hq : q < 256) : bits .or .i64 ((p : Int) * 256) (q : Int) = ((p * 256 + q : Nat) : Int) := by
  have e : (p : Int) * 256 = ((p * 256 : Nat) : Int) := by omega
  rw [e, or_i64 _ _ (by omega) (by omega), nat_join 8 (p * 256) q (by omega) (by omega)]
set_option maxRecDepth 100000 in
set_option maxHeartbeats 1000000 in
theorem be16_any (a : Option Addr) (len cap : Nat) (k : Nat) (zs : List Nat) (w : World) (hr : Rd w (.slice a len cap) (nus .u8 zs)) (hb : ∀ c ∈ zs, c < 256) (hk : k + 2 ≤ zs.length) :
    Calls Try.prog 45 #[.slice a len cap, .int .i64 (k : Int)] w fun e w' => e = .returned (.int .i64 ((zs.getD k 0 * 256 + zs.getD (k + 1) 0 : Nat) : Int)) ∧ ∃ n, w' = w.drewN n := by
  obtain ⟨a', c', e, h1, h2, h3⟩ := hr
  simp only [Value.slice.injEq, nus_length] at e
  obtain ⟨rfl, rfl, rfl⟩ := e
  rw [nus_length] at h1 h3
  unfold maxLen at h2
  rcases h3 with h3 | ⟨b, off, rfl, hbs, hc⟩
  · have : zs.length = 0 := by rw [(nus_nil _ _).1 h3]; rfl
    omega
  have c1 := hc k (by omega)
  have c2 := hc (k + 1) (by omega)
  rw [nus_get _ _ _ (by omega)] at c1 c2
  have hp := getD_lt zs hb k
  have hq := getD_lt zs hb (k + 1)
  obtain ⟨p, hpe⟩ : ∃ p, p = zs.getD k 0 := ⟨_, rfl⟩
  obtain ⟨q, hqe⟩ : ∃ q, q = zs.getD (k + 1) 0 := ⟨_, rfl⟩
  obtain ⟨len, hle⟩ : ∃ n, n = zs.length := ⟨_, rfl⟩
  rw [← hpe] at c1 hp ⊢
  rw [← hqe] at c2 hq ⊢
  rw [← hle] at h1 hk ⊢
  have HO := Lib.hid (be_or p q hp hq)
  have hk1 : k < len := by omega
  have hk2 : k + 1 < len := by omega
  have hkw : IntKind.i64.wrap ((k : Int) + 1) = (k : Int) + 1 := by rw [IntKind.wrap_i64]; omega
  have hpw : IntKind.i64.wrap (p : Int) = (p : Int) := by rw [IntKind.wrap_i64]; omega
  have hpw2 : IntKind.i64.wrap ((p : Int) * 256) = (p : Int) * 256 := by rw [IntKind.wrap_i64]; omega
  have hqw : IntKind.i64.wrap (q : Int) = (q : Int) := by rw [IntKind.wrap_i64]; omega
  have hki : (0 : Int) ≤ (k : Int) + 1 ∧ (k : Int) + 1 < (len : Int) := by omega
  have hkt : ((k : Int) + 1).toNat = k + 1 := by omega
  clear hc hbs hb hpe hqe hle
  go_enter Try.func45, Try.ntmps45
  go_wp2
  go_quiet (fail)
  go_wp2
  go_ret
  exact ⟨ret_int HO.out, _, rfl⟩
end Go.Proofs.Ythionipmohbnhaa
