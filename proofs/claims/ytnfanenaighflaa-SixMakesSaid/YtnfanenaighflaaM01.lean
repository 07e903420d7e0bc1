/- Texts that the walks of this seat lean on, put together: each has its own remark below. -/
import Derived.WalkKit
import Derived.Lib.Hide
import Derived.WalkSpells
import Derived.WalkLawsBesides
import Derived.Laws.CopyOwn
import Derived.OpenShut
import Derived.Deep.MidRow
import Derived.Laws.Rows
import Derived.Below
import Derived.Handy
import Derived.Ground.SlbCloneProg
import Derived.Shelf.Bytes.SlClone
import Derived.RangeFuncRecord
import Derived.LoopTactic
import Derived.Test.YtnfanenaighflaaProg

/- Plain facts on numbers and lists: a number's bytes, the high one first. Nothing of the program. -/
namespace Go.Proofs.Ytnfanenaighflaa
open Go.RowKit

/-- The number of bytes, the high one first. -/
def be (l : List Nat) : Nat := l.foldl (fun v c => v * 256 + c) 0

theorem be_nil : be [] = 0 := rfl
theorem be_snoc (l : List Nat) (c : Nat) : be (l ++ [c]) = be l * 256 + c := by simp [be]
theorem fold_lt (l : List Nat) (h : ∀ c ∈ l, c < 256) : ∀ a, l.foldl (fun v c => v * 256 + c) a < (a + 1) * 256 ^ l.length := by
  induction l with
  | nil => intro a; simp
  | cons c l ih =>
    intro a
    have h1 := ih (fun x hx => h x (by simp [hx])) (a * 256 + c)
    have h2 := h c (by simp)
    have h3 : (a * 256 + c + 1) * 256 ^ l.length ≤ (a + 1) * 256 * 256 ^ l.length := Nat.mul_le_mul_right _ (by omega)
    rw [List.foldl_cons, List.length_cons, Nat.pow_succ]
    calc _ < _ := h1
      _ ≤ _ := h3
      _ = _ := by rw [Nat.mul_assoc, Nat.mul_comm 256]
theorem be_lt (l : List Nat) (h : ∀ c ∈ l, c < 256) : be l < 256 ^ l.length := by simpa [be] using fold_lt l h 0

theorem or_step (v c : Nat) (hv : v < 72057594037927936) (hc : c < 256) :
    bits .or .u64 (IntKind.u64.wrap ((v : Int) * 256)) (c : Int) = ((v * 256 + c : Nat) : Int) := by
  have e : IntKind.u64.wrap ((v : Int) * 256) = ((v * 256 : Nat) : Int) := by
    rw [IntKind.wrap_u64]; omega
  rw [e, Go.bits_or_u64_nat _ _ (by omega) (by omega), nat_join 8 (v * 256) c (by omega) (by omega)]

theorem take_step (l : List Nat) (k j : Nat) (h : k + j < l.length) : (l.drop k).take (j + 1) = (l.drop k).take j ++ [l.getD (k + j) 0] := by
  rw [List.take_succ_eq_append_getElem (by simp; omega)]
  simp [List.getD_eq_getElem?_getD, List.getElem?_eq_getElem h]

theorem be_step (l : List Nat) (k j : Nat) (h : k + j < l.length) : be ((l.drop k).take (j + 1)) = be ((l.drop k).take j) * 256 + l.getD (k + j) 0 := by
  rw [take_step l k j h, be_snoc]

theorem be_take_lt (l : List Nat) (k j : Nat) (h : ∀ c ∈ l, c < 256) (hj : k + j ≤ l.length) : be ((l.drop k).take j) < 256 ^ j := by
  have := be_lt ((l.drop k).take j) (fun c hc => h c (List.mem_of_mem_drop (List.mem_of_mem_take hc)))
  rwa [show ((l.drop k).take j).length = j from by simp; omega] at this

theorem getD_lt (l : List Nat) (h : ∀ c ∈ l, c < 256) (i : Nat) : l.getD i 0 < 256 := by
  rw [List.getD_eq_getElem?_getD]
  cases hi : l[i]? with
  | none => simp
  | some c => simpa using h c (List.mem_of_getElem? hi)

theorem pow_mono (j n : Nat) (h : j ≤ n) : 256 ^ j ≤ 256 ^ n := Nat.pow_le_pow_right (by decide) h

theorem ret_int {k : IntKind} {a b : Int} (h : a = b) : Ending.returned (.int k a) = .returned (.int k b) := by rw [h]
end Go.Proofs.Ytnfanenaighflaa

/- What a slice reads as; that it goes on to read so while only new memory is made. Nothing of the program. -/
namespace Go.Proofs.Ytnfanenaighflaa
open Go.RowKit

/-- A slice value reads as the cells xs. -/
def Rd (w : World) (v : Value) (xs : List Value) : Prop :=
  ∃ a cap, v = .slice a xs.length cap ∧ xs.length ≤ cap ∧ cap ≤ maxLen ∧
    (xs = [] ∨ ∃ b off, a = some ⟨b, off, none⟩ ∧ b < w.heap.size ∧ ∀ i, i < xs.length → w.cell? ⟨b, off + i, none⟩ = xs[i]?)

/-- A row of numbers of one kind, none below 0, as cells. -/
def nus (k : IntKind) (zs : List Nat) : List Value := zs.map fun n : Nat => .int k (n : Int)

theorem nus_length (k : IntKind) (zs : List Nat) : (nus k zs).length = zs.length := by simp [nus]
theorem nus_append (k : IntKind) (a b : List Nat) : nus k (a ++ b) = nus k a ++ nus k b := by simp [nus]
theorem nus_nil (k : IntKind) (zs : List Nat) : nus k zs = [] ↔ zs = [] := by simp [nus]
theorem nus_get (k : IntKind) (zs : List Nat) (i : Nat) (h : i < zs.length) : (nus k zs)[i]? = some (.int k ((zs.getD i 0 : Nat) : Int)) := by
  simp [nus, List.getElem?_eq_getElem h, List.getD_eq_getElem?_getD]

theorem Rd.below {w w' : World} {v : Value} {xs : List Value} (h : Rd w v xs) (hb : Below w.heap.size w w') : Rd w' v xs := by
  obtain ⟨a, cap, rfl, h1, h2, h3⟩ := h
  refine ⟨a, cap, rfl, h1, h2, ?_⟩
  rcases h3 with h3 | ⟨b, off, rfl, hlt, hc⟩
  · exact .inl h3
  · exact .inr ⟨b, off, rfl, Nat.lt_of_lt_of_le hlt hb.size, fun i hi => by rw [hb.cell (p := ⟨b, off + i, none⟩) hlt]; exact hc i hi⟩

theorem Rd.le {w : World} {v : Value} {xs : List Value} (h : Rd w v xs) : xs.length ≤ maxLen := by
  obtain ⟨a, cap, rfl, h1, h2, h3⟩ := h
  exact Nat.le_trans h1 h2

/-- What the call owns reads as what it owns (elements of one cell). -/
theorem Rd.own {w : World} {base : Nat} {e : TypeId} {v : Value} {n : Nat} {xs : List Value} (h : w.ownsRow base e 1 v n xs) : Rd w v xs := by
  have h0 := h
  obtain ⟨h1, h2⟩ := h
  rcases h2 with ⟨rfl, rfl⟩ | ⟨g, cap, cur, rfl, hg, hh, hn, hm, hs, ht⟩
  · obtain rfl : xs = [] := List.eq_nil_of_length_eq_zero (by simpa using h1)
    exact ⟨none, 0, rfl, by simp, by simp [maxLen], .inl rfl⟩
  · have hl : xs.length = n := by simpa using h1
    subst hl
    refine ⟨_, cap, rfl, hn, hm, ?_⟩
    by_cases hx : xs = []
    · exact .inl hx
    · refine .inr ⟨g, 0, rfl, ?_, fun i hi => ?_⟩
      · exact (Array.getElem?_eq_some_iff.1 hh).1
      · rw [Nat.zero_add]; exact h0.cellAt i (by omega)

theorem Rd.src {w : World} {a : Option Addr} {len cap : Nat} {xs : List Value} (h : Rd w (.slice a len cap) xs) (h0 : 0 < xs.length) :
    ∃ ad, a = some ad ∧ ∀ j v, xs[j]? = some v → w.cell? (ad.add j) = some v := by
  obtain ⟨a', cap', he, h1, h2, h3⟩ := h
  simp only [Value.slice.injEq] at he
  obtain ⟨rfl, rfl, rfl⟩ := he
  rcases h3 with rfl | ⟨b, off, rfl, hlt, hc⟩
  · simp at h0
  · refine ⟨_, rfl, fun j v hj => ?_⟩
    have hjl : j < xs.length := (List.getElem?_eq_some_iff.1 hj).1
    rw [show (⟨b, off, none⟩ : Addr).add j = ⟨b, off + j, none⟩ from by unfold Addr.add; split <;> simp_all, hc j hjl]
    exact hj

/-- A row that is full: what lies in its block. -/
theorem own_heap {w : World} {base g n : Nat} {e : TypeId} {xs : List Value} (h : w.ownsRow base e 1 (.slice (some ⟨g, 0, none⟩) n n) n xs) :
    w.heap[g]? = some (.cells xs.toArray e (0, 0)) ∧ base ≤ g := by
  rcases h.2 with ⟨h', _⟩ | ⟨g', cap', cur, h', hb, hg, hnc, hcm, hcs, htake⟩
  · simp at h'
  · simp only [Value.slice.injEq, Option.some.injEq, Addr.mk.injEq, and_true, true_and] at h'
    obtain ⟨rfl, rfl⟩ := h'
    refine ⟨?_, hb⟩
    rw [hg, ← htake]
    rw [List.take_of_length_le (by simp; omega)]

theorem own_of_heap {w : World} {base g n : Nat} {e : TypeId} {xs : List Value} (h : w.heap[g]? = some (.cells xs.toArray e (0, 0))) (hb : base ≤ g) (hn : xs.length = n) (hm : n ≤ maxLen) :
    w.ownsRow base e 1 (.slice (some ⟨g, 0, none⟩) n n) n xs :=
  ⟨by simpa using hn, .inr ⟨g, n, xs.toArray, rfl, hb, h, Nat.le_refl _, hm, by simpa using hn, by simp [List.take_of_length_le, hn]⟩⟩

theorem oneCell_nus (k : IntKind) (zs : List Nat) : ∀ u ∈ nus k zs, u.oneCell' = true := by
  intro u hu
  obtain ⟨n, _, rfl⟩ := List.mem_map.1 hu
  rfl

/-- 'copy(out[off:], src)' into a row of the call's own, whatever the source: what the row is behind it, and that no other block has turned. -/
theorem copy_grown {P : Program} {w : World} {ops : Array Oper} {rest : List Oper} {o : Oper} {a : Act} {Q : Exit → Act → World → Prop} (hgd : o.guard = none) (d s : Operand) (dT sT : TypeId)
    (ho : o.op = .call { callee := .builtin .copy, args := #[d, s], argTypes := #[dT, sT] }) (elem : TypeId) (hu : P.underlying dT = some (.slice elem)) (hsz : (P.info? elem).map (·.size) = some 1)
    (dp sp : Option Addr) (dLen dCap sLen sCap : Nat) (hd : a.eval d = .slice dp dLen dCap) (hs : a.eval s = .slice sp sLen sCap)
    (g off : Nat) (cur : List Value) (t : TypeId) (hg : w.heap[g]? = some (.cells cur.toArray t (0, 0))) (cs : List Value) (hn : cs.length = Nat.min sLen dLen)
    (hpos : 0 < cs.length → dp = some ⟨g, off, none⟩ ∧ ∃ ad, sp = some ad ∧ ∀ j v, cs[j]? = some v → w.cell? (ad.add j) = some v)
    (hfit : off + cs.length ≤ cur.length) (h1 : ∀ v ∈ cs, v.oneCell' = true)
    (h : ∀ w', Hid (w'.heap[g]? = some (.cells (splice cur off cs).toArray t (0, 0))) → w.grownBy w' (some g) → wpList P ops Q rest (a.put o.dst (goInt cs.length)) w') :
    wpList P ops Q (o :: rest) a w := by
  by_cases h0 : cs.length = 0
  · obtain rfl : cs = [] := List.eq_nil_of_length_eq_zero h0
    refine wpList_copy_nothing hgd d s dT sT ho elem hu hsz dp sp dLen dCap sLen sCap hd hs (by simpa using hn.symm) ?_
    exact h w (show _ = _ by simpa [splice] using hg) (World.grownBy.refl _ _)
  · obtain ⟨rfl, ad, rfl, hsrc⟩ := hpos (by omega)
    refine wpList_copy_own hgd d s dT sT ho elem hu hsz g off dLen dCap ad sLen sCap hd hs cur.toArray t hg cs hn hsrc (by simpa using hfit) h1 ?_
    refine h _ (show _ = _ by simpa [splice] using setRow_heap w g _ _ t _ hg) ⟨rfl, rfl, rfl, by simp [World.setRow], fun k _ hk => setRow_other w g k _ (fun e => hk (by rw [e]))⟩

end Go.Proofs.Ytnfanenaighflaa

/- The contracts of octet.size, octet.fits and octet.Get at the size of 16 binary digits. -/
namespace Go.Proofs.Ytnfanenaighflaa
open Go.RowKit

set_option maxRecDepth 10000 in
set_option maxHeartbeats 400000 in
theorem len64_16 (w : World) :
    Calls Try.prog 30 #[.int .u64 65535] w fun e w' => e = .returned (.int .i64 16) ∧ w = w' := by
  go_enter Try.func30, Try.ntmps30
  go_wp2_with fail
  go_ret
  exact ⟨by kernel_rfl, rfl⟩

set_option maxRecDepth 10000 in
set_option maxHeartbeats 400000 in
theorem size16_any (w : World) :
    Calls Try.prog 29 #[] w fun e w' => e = .returned (.int .i64 2) ∧ w = w' := by
  go_enter Try.func29, Try.ntmps29
  go_wp2_with (go_at_call 30; refine (len64_16 _).mono ?_; rintro e w' ⟨rfl, rfl⟩)
  go_ret
  exact ⟨rfl, rfl⟩

set_option maxHeartbeats 400000 in
theorem fits16_neg (a : Option Addr) (len cap : Nat) (at0 : Int) (w : World) (h0 : at0 < 0) :
    Calls Try.prog 28 #[.slice a len cap, .int .i64 at0] w fun e w' => e = .returned (.bool false) ∧ w = w' := by
  go_enter Try.func28, Try.ntmps28
  go_wp2_with (go_at_call 29; refine (size16_any _).mono ?_; rintro e w' ⟨rfl, rfl⟩)
  go_ret
  exact ⟨rfl, rfl⟩

set_option maxHeartbeats 400000 in
theorem fits16_pos (a : Option Addr) (len cap : Nat) (at0 : Int) (w : World) (hl : len ≤ maxLen) (h0 : 0 ≤ at0) :
    Calls Try.prog 28 #[.slice a len cap, .int .i64 at0] w fun e w' => e = .returned (.bool (decide (at0 ≤ (len : Int) - 2))) ∧ w = w' := by
  unfold maxLen at hl
  go_enter Try.func28, Try.ntmps28
  go_wp2_with (go_at_call 29; refine (size16_any _).mono ?_; rintro e w' ⟨rfl, rfl⟩)
  go_ret
  exact ⟨rfl, rfl⟩

set_option maxHeartbeats 400000 in
theorem get16_yes (v : Value) (k : Nat) (zs : List Nat) (w : World) (hr : Rd w v (nus .u8 zs)) (hb : ∀ c ∈ zs, c < 256) (hk : k + 2 ≤ zs.length) :
    Calls Try.prog 27 #[v, .int .i64 k] w fun e w' => e = .returned (.tuple #[.int .u16 (be ((zs.drop k).take 2) : Nat), .bool true]) ∧ w = w' := by
  obtain ⟨a, cap, rfl, hlc, hl, hx⟩ := hr
  rw [nus_length] at hlc hx ⊢
  rcases hx with hx | ⟨b, off, rfl, hbs, hc⟩
  · have : zs.length = 0 := by rw [(nus_nil _ _).1 hx]; rfl
    omega
  obtain ⟨len, hlen⟩ : ∃ len, len = zs.length := ⟨_, rfl⟩
  rw [← hlen] at hlc hc hk ⊢
  have HL := Lib.hid hlen
  have HC := Lib.hid hc
  have HB := Lib.hid hb
  clear hlen hc hbs hb
  unfold maxLen at hl
  have hfit : decide ((k : Int) ≤ (len : Int) - 2) = true := by simp; omega
  go_enter Try.func27, Try.ntmps27
  go_wp2_with (first
    | (go_at_call 28; refine (fits16_pos _ _ _ _ _ (by unfold maxLen; omega) (by omega)).mono ?_; rintro e w' ⟨rfl, rfl⟩; rw [hfit])
    | (go_at_call 29; refine (size16_any _).mono ?_; rintro e w' ⟨rfl, rfl⟩))
  go_loop [6, 20] (fun v i => ∃ j : Nat, j ≤ 2 ∧ i = .int .i64 j ∧ v = .int .u64 (be ((zs.drop k).take j) : Nat)) (fun _ i => 2 - (intOf i).toNat)
  case atStart => exact ⟨0, by omega, rfl, rfl⟩
  case round =>
    obtain ⟨j, hj, rfl, rfl⟩ := hrel
    clear hfit
    by_cases hlt : j < 2
    · have hcj := HC.out (k + j) (by omega)
      rw [nus_get _ _ _ (by rw [← HL.out]; omega), ← Nat.add_assoc] at hcj
      have hb := getD_lt zs HB.out (k + j)
      have hst := be_step zs k j (by rw [← HL.out]; omega)
      have hlt' := be_take_lt zs k j HB.out (by rw [← HL.out]; omega)
      have hpw := pow_mono j 7 (by omega)
      have hor := or_step (be ((zs.drop k).take j)) (zs.getD (k + j) 0) (by omega) hb
      rw [← hst] at hor
      obtain ⟨x, hx⟩ : ∃ x, x = zs.getD (k + j) 0 := ⟨_, rfl⟩
      rw [← hx] at hcj hor hb
      have HO := Lib.hid hor
      clear hx hor hst hlt' hpw
      go_wp2
      go_round
      case rel => exact ⟨j + 1, by omega, by go_num, by rw [HO.out]⟩
      case measure => simp [intOf]; omega
    · have hfin := be_take_lt zs k 2 HB.out (by rw [← HL.out]; omega)
      obtain rfl : j = 2 := by omega
      simp only [Nat.reducePow] at hfin
      go_wp2
      go_ret2
      exact ⟨rfl, rfl⟩

set_option maxHeartbeats 400000 in
theorem get16_no (a : Option Addr) (len cap : Nat) (at0 : Int) (w : World) (hl : len ≤ maxLen) (h : at0 < 0 ∨ (len : Int) < at0 + 2) :
    Calls Try.prog 27 #[.slice a len cap, .int .i64 at0] w fun e w' => e = .returned (.tuple #[.int .u16 0, .bool false]) ∧ w = w' := by
  by_cases h0 : at0 < 0
  · go_enter Try.func27, Try.ntmps27
    go_wp2_with (go_at_call 28; refine (fits16_neg _ _ _ _ _ (by omega)).mono ?_; rintro e w' ⟨rfl, rfl⟩)
    go_ret2
    exact ⟨rfl, rfl⟩
  · have hfit : decide (at0 ≤ (len : Int) - 2) = false := by simp; omega
    go_enter Try.func27, Try.ntmps27
    go_wp2_with (go_at_call 28; refine (fits16_pos _ _ _ _ _ hl (by omega)).mono ?_; rintro e w' ⟨rfl, rfl⟩; rw [hfit])
    go_ret2
    exact ⟨rfl, rfl⟩
end Go.Proofs.Ytnfanenaighflaa

/- What a slice of numbers that came in reads as. Nothing of the program. -/
namespace Go.Proofs.Ytnfanenaighflaa
open Go.RowKit

theorem row_rd {k : IntKind} {w : World} {a : Option Addr} {len cap : Nat} {zs : List Int} (B : Nat) (hB : ∀ n : Int, (Lit.int k n).wf = true → 0 ≤ n ∧ n < B)
    (h : (a = none ∧ len = 0 ∧ cap = 0 ∧ zs = []) ∨ ∃ x, a = some x ∧ len ≤ cap ∧ cap ≤ maxLen ∧ zs.length = cap ∧ (∀ i, i < zs.length → w.cell? (x.add i) = some (.int k (zs.getD i 0))) ∧ ∀ n ∈ zs, (Lit.int k n).wf = true) :
    ∃ bs : List Nat, bs.length = len ∧ Rd w (.slice a len cap) (nus k bs) ∧ ∀ c ∈ bs, c < B := by
  rcases h with ⟨rfl, rfl, rfl, rfl⟩ | ⟨x, rfl, hl, hm, hz, hc, hw⟩
  · exact ⟨[], rfl, ⟨none, 0, rfl, by simp [nus], by simp [maxLen], .inl rfl⟩, fun c hc => by cases hc⟩
  · have hlen : ((zs.take len).map Int.toNat).length = len := by simp; omega
    refine ⟨(zs.take len).map Int.toNat, hlen, ⟨some x, cap, by rw [nus_length, hlen], by rw [nus_length, hlen]; exact hl, hm, ?_⟩, ?_⟩
    · by_cases h0 : len = 0
      · exact .inl ((nus_nil _ _).2 (by subst h0; simp))
      · obtain ⟨b, off, spot⟩ := x
        have h00 := hc 0 (by omega)
        have hspot : spot = none := by simpa [Addr.add] using World.cell?_spot h00
        subst hspot
        refine .inr ⟨b, off, rfl, ?_, fun i hi => ?_⟩
        · have := World.block_lt_of_cell? w _ h00
          simpa [Addr.add] using this
        · rw [nus_length, hlen] at hi
          have h1 := hc i (by omega)
          rw [nus_get _ _ _ (by rw [hlen]; exact hi)]
          have hadd : (⟨b, off, none⟩ : Addr).add i = ⟨b, off + i, none⟩ := by unfold Addr.add; split <;> simp_all
          rw [hadd] at h1
          rw [h1]
          have hget : zs.getD i 0 = zs[i]'(by omega) := by simp [List.getD_eq_getElem?_getD, List.getElem?_eq_getElem (show i < zs.length by omega)]
          have hpos := (hB _ (hw _ (List.getElem_mem (show i < zs.length by omega)))).1
          rw [hget]
          congr 2
          simp only [List.getD_eq_getElem?_getD, List.getElem?_map, List.getElem?_take, if_pos hi, List.getElem?_eq_getElem (show i < zs.length by omega), Option.map_some, Option.getD_some]
          omega
    · intro c hc
      obtain ⟨n, hn, rfl⟩ := List.mem_map.1 hc
      have := hB n (hw n (List.mem_of_mem_take hn))
      omega

theorem rd_nil (w : World) (k : IntKind) : Rd w (.slice none 0 0) (nus k []) := ⟨none, 0, rfl, by simp [nus], by simp [maxLen], .inl rfl⟩
theorem rd_shape {w : World} {v : Value} {k : IntKind} {bs : List Nat} (h : Rd w v (nus k bs)) : ∃ a cap, v = .slice a bs.length cap ∧ bs.length ≤ cap ∧ cap ≤ maxLen := by
  obtain ⟨a, cap, rfl, h1, h2, _⟩ := h
  rw [nus_length] at h1 ⊢
  exact ⟨a, cap, rfl, h1, h2⟩

theorem Rd.cells {w : World} {a : Option Addr} {len cap : Nat} {k : IntKind} {bs : List Nat} (h : Rd w (.slice a len cap) (nus k bs)) (h0 : 0 < len) :
    ∃ b off, a = some ⟨b, off, none⟩ ∧ ∀ i, i < len → w.cell? ⟨b, off + i, none⟩ = some (.int k ((bs.getD i 0 : Nat) : Int)) := by
  obtain ⟨a', cap', e, _, _, h⟩ := h
  simp only [Value.slice.injEq] at e
  obtain ⟨rfl, rfl, rfl⟩ := e
  rw [nus_length] at h0 h
  rcases h with h | ⟨b, off, rfl, _, hc⟩
  · rw [(nus_nil _ _).1 h] at h0; cases h0
  · exact ⟨b, off, rfl, fun i hi => by rw [nus_length] at hi; rw [hc i hi, nus_get _ _ _ hi]⟩

/-- The front of what a slice reads as. -/
theorem Rd.front {w : World} {a : Option Addr} {len cap : Nat} {k : IntKind} {bs : List Nat} (h : Rd w (.slice a len cap) (nus k bs)) (m : Nat) (hm : m ≤ bs.length) : Rd w (.slice a m cap) (nus k (bs.take m)) := by
  obtain ⟨a', cap', e, h1, h2, h3⟩ := h
  simp only [Value.slice.injEq] at e
  obtain ⟨rfl, rfl, rfl⟩ := e
  rw [nus_length] at h1 h3
  have hl : (nus k (bs.take m)).length = m := by rw [nus_length]; simp; omega
  refine ⟨_, _, by rw [hl], by rw [hl]; omega, h2, ?_⟩
  rcases h3 with h3 | ⟨b', off', he, hb, hcc⟩
  · obtain rfl := (nus_nil _ _).1 h3
    exact .inl (by simp [nus])
  · refine .inr ⟨b', off', he, hb, fun i hi => ?_⟩
    rw [hl] at hi
    rw [hcc i (by omega)]
    simp [nus, hi]
theorem Rd.sub {w : World} {b off len cap : Nat} {k : IntKind} {bs : List Nat} (h : Rd w (.slice (some ⟨b, off, none⟩) len cap) (nus k bs)) (j m : Nat) (hc : j + m ≤ len) : Rd w (.slice (some ⟨b, off + j, none⟩) m (cap - j)) (nus k ((bs.drop j).take m)) := by
  obtain ⟨a', cap', e, h1, h2, h3⟩ := h
  simp only [Value.slice.injEq] at e
  obtain ⟨e1, rfl, rfl⟩ := e
  rw [nus_length] at h1 h3 hc
  have hl : (nus k ((bs.drop j).take m)).length = m := by rw [nus_length]; simp; omega
  refine ⟨_, _, by rw [hl], by rw [hl]; omega, by omega, ?_⟩
  rcases h3 with h3 | ⟨b', off', he, hb, hcc⟩
  · obtain rfl := (nus_nil _ _).1 h3
    exact .inl (by simp [nus])
  · rw [← e1] at he
    cases he
    refine .inr ⟨b, off + j, rfl, hb, fun i hi => ?_⟩
    rw [hl] at hi
    rw [Nat.add_assoc, hcc (j + i) (by omega)]
    simp [nus, hi]
theorem wf_u8 (n : Int) (h : (Lit.int .u8 n).wf = true) : 0 ≤ n ∧ n < (256 : Nat) := by have := bounds_u8 h; omega
theorem wf_u64 (n : Int) (h : (Lit.int .u64 n).wf = true) : 0 ≤ n ∧ n < (18446744073709551616 : Nat) := by have := bounds_u64 h; omega
theorem wf_i64 (n : Int) (h : (Lit.int .i64 n).wf = true) : -9223372036854775808 ≤ n ∧ n ≤ 9223372036854775807 := by have := bounds_i64 h; omega
end Go.Proofs.Ytnfanenaighflaa

/- Two bytes as a number; parts of rows. Nothing of the program. -/
namespace Go.Proofs.Ytnfanenaighflaa

/-- The number of two bytes at a place. -/
def u2 (zs : List Nat) (k : Nat) : Nat := zs.getD k 0 * 256 + zs.getD (k + 1) 0
theorem be_u2 (zs : List Nat) (k : Nat) (h : k + 2 ≤ zs.length) : be ((zs.drop k).take 2) = u2 zs k := by
  have e := be_step zs k 1 (by omega)
  have e0 := be_step zs k 0 (by omega)
  have z : be ((zs.drop k).take 0) = 0 := rfl
  rw [e, e0, z, Nat.add_zero]
  unfold u2
  omega
theorem u2_lt (zs : List Nat) (k : Nat) (hb : ∀ c ∈ zs, c < 256) : u2 zs k < 65536 := by
  have h1 := getD_lt zs hb k
  have h2 := getD_lt zs hb (k + 1)
  unfold u2; omega
theorem getD_take (zs : List Nat) (k i : Nat) (h : i < k) : (zs.take k).getD i 0 = zs.getD i 0 := by
  simp [List.getD_eq_getElem?_getD, h]
theorem u2_take (zs : List Nat) (k i : Nat) (h : i + 2 ≤ k) : u2 (zs.take k) i = u2 zs i := by
  unfold u2
  rw [getD_take _ _ _ (by omega), getD_take _ _ _ (by omega)]
theorem getD_app (M L : List Nat) (n i : Nat) (h : M.length = n) : (M ++ L).getD (n + i) 0 = L.getD i 0 := by
  rw [List.getD_eq_getElem?_getD, List.getD_eq_getElem?_getD, List.getElem?_append_right (by omega), h, Nat.add_sub_cancel_left]
theorem u2_app (M L : List Nat) (n i : Nat) (h : M.length = n) : u2 (M ++ L) (n + i) = u2 L i := by
  unfold u2
  rw [getD_app _ _ _ _ h, Nat.add_assoc, getD_app _ _ _ _ h]
end Go.Proofs.Ytnfanenaighflaa

/- Blocks that are known whole: a value of several cells is loaded from one, stored into one. -/
namespace Go.Proofs.Ytnfanenaighflaa
open Go.RowKit

/-- Block g is just these cells, none frozen. -/
def Blk (w : World) (g : Nat) (t : TypeId) (cs : Array Value) : Prop := w.heap[g]? = some (.cells cs t (0, 0))
section
variable {w w' : World} {g : Nat} {t : TypeId} {cs : Array Value}
theorem Blk.lt (h : Blk w g t cs) : g < w.heap.size := by
  rcases Nat.lt_or_ge g w.heap.size with hlt | hge
  · exact hlt
  · unfold Blk at h; rw [Array.getElem?_eq_none hge] at h; cases h
theorem Blk.cell (h : Blk w g t cs) (i : Nat) : w.cell? ⟨g, i, none⟩ = cs[i]? := cell_of_row w g i cs t (0, 0) h
theorem Blk.frozen (h : Blk w g t cs) (i : Nat) : w.frozen? ⟨g, i, none⟩ = false := by
  unfold Blk at h
  simp [World.frozen?, h]
theorem Blk.new (w : World) (t : TypeId) (cs : Array Value) : Blk (w.alloc (.cells cs t)) w.heap.size t cs := by
  simp [Blk, World.alloc, -World.alloc_eq]
theorem Blk.drewN (h : Blk w g t cs) (n : Nat) : Blk (w.drewN n) g t cs := h
theorem Blk.drew (h : Blk w g t cs) : Blk w.drew g t cs := h
theorem Blk.alloc (h : Blk w g t cs) (o : Obj) : Blk (w.alloc o) g t cs := (Below.heap_alloc w o g h.lt).trans h
theorem Blk.set_ (h : Blk w g t cs) (i : Nat) (u : Value) : Blk (w.setCell ⟨g, i, none⟩ u) g t (cs.setIfInBounds i u) := by
  unfold Blk at h ⊢
  simp [World.setCell, Array.getElem?_modify, h]
theorem Blk.far (h : Blk w g t cs) {p : Addr} (hp : g ≠ p.block) (u : Value) : Blk (w.setCell p u) g t cs := (Below.heap_setCell w p u g hp).trans h
theorem Blk.below {B : Nat} (h : Blk w g t cs) (hb : Below B w w') (hg : g < B) : Blk w' g t cs := (hb.block g hg).trans h
theorem Blk.range (h : Blk w g t cs) : w.rangeAt g 0 cs.toList := fun j v hv => by
  rw [Nat.zero_add, h.cell j]
  simpa using hv
theorem Blk.there (h : Blk w g t cs) : w.there g 0 cs.size := fun j hj => by
  rw [Nat.zero_add, h.cell j, h.frozen j]
  simp [hj]
theorem Blk.thereN (h : Blk w g t cs) {n : Nat} (hn : n ≤ cs.size) : w.there g 0 n := fun j hj => h.there j (by omega)

/-- Cells written one behind the other. -/
def setL (cs : Array Value) : Nat → List Value → Array Value
  | _, [] => cs
  | o, v :: r => setL (cs.setIfInBounds o v) (o + 1) r
theorem setL_get : ∀ (vs : List Value) (cs : Array Value) (o j : Nat), (setL cs o vs)[j]? = if o ≤ j ∧ j < o + vs.length ∧ j < cs.size then vs[j - o]? else cs[j]?
  | [], cs, o, j => by
    rw [setL, if_neg]
    simp; omega
  | v :: r, cs, o, j => by
    rw [setL, setL_get r, Array.size_setIfInBounds, Array.getElem?_setIfInBounds]
    by_cases h1 : o = j
    · subst h1
      by_cases h2 : o < cs.size
      · rw [if_neg (by omega), if_pos rfl, if_pos h2, if_pos ⟨by omega, by simp, h2⟩]
        simp
      · rw [if_neg (by omega), if_pos rfl, if_neg h2, if_neg (by omega)]
        rw [Array.getElem?_eq_none (by omega)]
    · rw [if_neg h1]
      by_cases h2 : o + 1 ≤ j ∧ j < o + 1 + r.length ∧ j < cs.size
      · rw [if_pos h2, if_pos ⟨by omega, by simp; omega, h2.2.2⟩, show j - o = (j - (o + 1)) + 1 by omega]
        simp
      · rw [if_neg h2, if_neg (by simp; omega)]
theorem setL_all (cs : Array Value) (vs : Array Value) (h : vs.size = cs.size) : setL cs 0 vs.toList = vs := by
  apply Array.ext_getElem?
  intro j
  rw [setL_get]
  by_cases hj : j < cs.size
  · rw [if_pos ⟨by omega, by simp; omega, hj⟩]
    simp
  · rw [if_neg (by omega), Array.getElem?_eq_none (by omega), Array.getElem?_eq_none (by omega)]
theorem Blk.setCells : ∀ (vs : List Value) (o : Nat) (w : World) (cs : Array Value), Blk w g t cs → Blk (w.setCells g o vs) g t (setL cs o vs)
  | [], _, _, _, h => h
  | v :: r, o, _, _, h => Blk.setCells r (o + 1) _ _ (h.set_ o v)
theorem Blk.setAll (h : Blk w g t cs) (vs : Array Value) (hv : vs.size = cs.size) : Blk (w.setCells g 0 vs.toList) g t vs := by
  have := Blk.setCells vs.toList 0 w cs h
  rwa [setL_all cs vs hv] at this
theorem setCells_far (k : Nat) (hk : k ≠ g) : ∀ (vs : List Value) (o : Nat) (w : World), (w.setCells g o vs).heap[k]? = w.heap[k]?
  | [], _, _ => rfl
  | v :: r, o, w => (setCells_far k hk r (o + 1) _).trans (Below.heap_setCell w ⟨g, o, none⟩ v k hk)
theorem setCells_below {B : Nat} {a : World} (hg : B ≤ g) : ∀ (vs : List Value) (o : Nat) (w : World), Below B a w → Below B a (w.setCells g o vs)
  | [], _, _, h => h
  | v :: r, o, _, h => setCells_below hg r (o + 1) _ (h.setCell (p := ⟨g, o, none⟩) hg v)

/-- A load of a whole block. -/
theorem wpList_blk_load {P : Program} {ops : Array Oper} {rest : List Oper} {op : Oper} {a : Act} {Q : Exit → Act → World → Prop} (hgd : op.guard = none) (ty : TypeId) (x : Operand) (ho : op.op = .load ty x)
    (b : Nat) (hx : a.eval x = .pointer (some ⟨b, 0, none⟩)) (d : TypeDesc) (hc : Blk w b t cs)
    (hu : P.underlying ty = some d) (hd : d.isRow = true) (hi : (P.info? ty).map (·.size) = some cs.size)
    (h : wpList P ops Q rest (a.put op.dst (.agg cs)) w) : wpList P ops Q (op :: rest) a w :=
  wpList_load_mid hgd ty x ho b 0 hx cs.toList d hc.range hu hd (by simpa using hi) (by simpa using h)
/-- A store into a whole block: what is known of the world behind it. -/
theorem wpList_blk_store {P : Program} {ops : Array Oper} {rest : List Oper} {op : Oper} {a : Act} {Q : Exit → Act → World → Prop} (hgd : op.guard = none) (ty : TypeId) (x y : Operand) (ho : op.op = .store ty x y)
    (b : Nat) (vs : Array Value) (hx : a.eval x = .pointer (some ⟨b, 0, none⟩)) (hy : a.eval y = .agg vs) (hc : Blk w b t cs) (hs : vs.size = cs.size)
    (hi : (P.info? ty).map (·.size) = some vs.size) (h1 : vs.all (·.oneCell') = true)
    (h : ∀ w', Blk w' b t vs → (∀ k, k ≠ b → w'.heap[k]? = w.heap[k]?) → (∀ B, B ≤ b → Below B w w') → wpList P ops Q rest (a.put op.dst undef) w') : wpList P ops Q (op :: rest) a w :=
  wpList_store_mid hgd ty x y ho b 0 vs hx hy (hc.thereN (by omega)) hi h1
    (h _ (hc.setAll vs hs) (fun k hk => setCells_far k hk _ _ _) (fun B hB => setCells_below hB _ _ _ (Below.refl _ _)))
/-- The value of a result that lies in a block of its own. -/
theorem run_blk_load {P : Program} (ty : TypeId) (b : Nat) (d : TypeDesc) (hc : Blk w b t cs) (hu : P.underlying ty = some d) (hd : d.isRow = true) (hi : (P.info? ty).map (·.size) = some cs.size) :
    (loadVar ty ⟨b, 0, none⟩).run P w = .ok (.agg cs) w := by
  have := run_loadVar_mid (P := P) w b 0 ty cs.toList d hc.range hu hd (by simpa using hi)
  simpa using this
end
theorem results_cell_tmp {P : Program} {fn : Func} {tmps : Array Value} {w : World} (p : Nat) (t : TypeId) (q : Nat) (b : Nat) (v : Value) (hres : fn.results = #[.cell p t, .tmp q])
    (hp : tmps.getD p undef = .pointer (some ⟨b, 0, none⟩)) (hl : (loadVar t ⟨b, 0, none⟩).run P w = .ok v w) : (results fn tmps).run P w = .ok (.tuple #[v, tmps.getD q undef]) w := by
  unfold results
  rw [hres]
  have hp' : tmps[p]?.getD undef = .pointer (some ⟨b, 0, none⟩) := by rw [← hp, Array.getD_eq_getD_getElem?]
  simp [asAddr, hp', hl, Array.mapM_eq_foldlM]
theorem results_cell {P : Program} {fn : Func} {tmps : Array Value} {w : World} (p : Nat) (t : TypeId) (b : Nat) (v : Value) (hres : fn.results = #[.cell p t])
    (hp : tmps.getD p undef = .pointer (some ⟨b, 0, none⟩)) (hl : (loadVar t ⟨b, 0, none⟩).run P w = .ok v w) : (results fn tmps).run P w = .ok v w := by
  unfold results
  rw [hres]
  have hp' : tmps[p]?.getD undef = .pointer (some ⟨b, 0, none⟩) := by rw [← hp, Array.getD_eq_getD_getElem?]
  simp [asAddr, hp', hl, Array.mapM_eq_foldlM]
end Go.Proofs.Ytnfanenaighflaa

/- Addresses as sixteen bytes. Nothing of the program. -/
namespace Go.Proofs.Ytnfanenaighflaa

theorem ext_getD {α : Type} (a b : List α) (d : α) (hl : a.length = b.length) (h : ∀ i, i < a.length → a.getD i d = b.getD i d) : a = b := by
  refine List.ext_getElem hl fun i h1 h2 => ?_
  have := h i h1
  simpa [List.getD_eq_getElem?_getD, h1, h2] using this

def validA (v : Bool) (bs : List Nat) : Prop := v = true ∨ ∀ i, 4 ≤ i → i < 16 → bs.getD i 0 = 0

theorem list16 (bs : List Nat) (h : bs.length = 16) : ∃ b0 b1 b2 b3 b4 b5 b6 b7 b8 b9 b10 b11 b12 b13 b14 b15, bs = [b0, b1, b2, b3, b4, b5, b6, b7, b8, b9, b10, b11, b12, b13, b14, b15] := by
  match bs, h with
  | [b0, b1, b2, b3, b4, b5, b6, b7, b8, b9, b10, b11, b12, b13, b14, b15], _ => exact ⟨b0, b1, b2, b3, b4, b5, b6, b7, b8, b9, b10, b11, b12, b13, b14, b15, rfl⟩

/-- The document's Valid. -/
def vldA (v : Bool) (bs : List Nat) : Bool := v || (List.range 12).all fun i => bs.getD (4 + i) 0 == 0
theorem vldA_spec {v : Bool} {bs : List Nat} : vldA v bs = true ↔ validA v bs := by
  unfold vldA validA
  rw [Bool.or_eq_true, List.all_eq_true]
  constructor
  · rintro (h | h)
    · exact .inl h
    · refine .inr fun i h1 h2 => ?_
      have := h (i - 4) (List.mem_range.2 (by omega))
      rw [show 4 + (i - 4) = i by omega] at this
      simpa using this
  · rintro (h | h)
    · exact .inl h
    · exact .inr fun i hi => by simpa using h (4 + i) (by omega) (by have := List.mem_range.1 hi; omega)

end Go.Proofs.Ytnfanenaighflaa

/- An address's cells. -/
namespace Go.Proofs.Ytnfanenaighflaa
open Go.RowKit

/-- An address's seventeen cells. -/
def cellsA (v : Bool) (bs : List Nat) : Array Value := (Value.bool v :: bs.map fun n : Nat => Value.int .u8 (n : Int)).toArray
/-- An address. -/
def adr (v : Bool) (bs : List Nat) : Value := .agg (cellsA v bs)
theorem cellsA_size (v : Bool) (bs : List Nat) : (cellsA v bs).size = bs.length + 1 := by simp [cellsA]
theorem cellsA_all (v : Bool) (bs : List Nat) : (cellsA v bs).all (·.oneCell') = true :=
  Array.all_eq_true_iff_forall_mem.2 (by
    intro x hx
    simp [cellsA] at hx
    rcases hx with rfl | ⟨n, _, rfl⟩ <;> rfl)
theorem cellsA_get (v : Bool) (bs : List Nat) (i : Nat) (h : i < bs.length) : (cellsA v bs)[1 + i]? = some (.int .u8 ((bs.getD i 0 : Nat) : Int)) := by
  simp [cellsA, Nat.add_comm 1 i, h]
theorem cellsA_set (v : Bool) (bs : List Nat) (i n : Nat) : (cellsA v bs).setIfInBounds (1 + i) (.int .u8 (n : Int)) = cellsA v (bs.set i n) := by
  simp [cellsA, Nat.add_comm 1 i, List.map_set]
theorem set_zeros (ns : List Nat) (m n : Nat) (h : 0 < m) : (ns ++ List.replicate m 0).set ns.length n = (ns ++ [n]) ++ List.replicate (m - 1) 0 := by
  obtain ⟨q, rfl⟩ : ∃ q, m = q + 1 := ⟨m - 1, by omega⟩
  rw [List.set_append_right _ _ (Nat.le_refl _), Nat.sub_self]
  simp [List.replicate_succ]

theorem zeros_get (ns : List Nat) (m k : Nat) (hk : ns.length = k) : (ns ++ List.replicate m 0).getD k 0 = 0 := by
  rw [List.getD_eq_getElem?_getD, List.getElem?_append_right (by omega), List.getElem?_replicate]
  split <;> rfl

theorem i24 : (Try.prog.info? 25).map (·.size) = some 17 := by kernel_rfl
end Go.Proofs.Ytnfanenaighflaa

/- addr.From. -/
namespace Go.Proofs.Ytnfanenaighflaa
open Go.RowKit Go.Lib

theorem splice_at (v : Bool) (bs : List Nat) (_h : bs.length ≤ 16) : (splice (cellsA v (List.replicate 16 0)).toList 1 (nus .u8 bs)).toArray = cellsA v (bs ++ List.replicate (16 - bs.length) 0) := by
  have e : (cellsA v (List.replicate 16 0)).toList = Value.bool v :: List.replicate 16 (Value.int .u8 0) := by simp [cellsA]
  rw [e]
  unfold splice cellsA
  rw [nus_length, Nat.add_comm 1 bs.length, List.drop_succ_cons, List.drop_replicate, List.take_succ_cons, List.take_zero]
  simp [nus]
theorem info5_size : (Try.prog.info? 5).map (·.size) = some 1 := by kernel_rfl

set_option maxRecDepth 100000 in
set_option maxHeartbeats 2000000 in
theorem from_ok (va : Value) (v : Bool) (bs : List Nat) (w : World) (hr : Rd w va (nus .u8 bs)) (h : bs.length = 4 ∧ v = false ∨ bs.length = 16 ∧ v = true) :
    Calls Try.prog 19 #[va] w fun e w' => e = .returned (.tuple #[adr v (bs ++ List.replicate (16 - bs.length) 0), .int .i64 0]) ∧ Below w.heap.size w w' := by
  obtain ⟨a, cap, rfl, hlc, hc⟩ := rd_shape hr
  have hr1 := hr.below ((((Below.refl w.heap.size w).alloc (Nat.le_refl _) (.cells (cellsA false (List.replicate 16 0)) 25)).alloc (by simp) (.cells (cellsA v (List.replicate 16 0)) 25)))
  obtain ⟨b0, o0, rfl, hcell0⟩ := hr1.cells (by omega)
  clear hr hr1
  rcases h with ⟨h4, rfl⟩ | ⟨h16, rfl⟩
  · have d4 : (((4 : Nat) : Int) != 4) = false := by rfl
    have hcell := hcell0
    obtain ⟨cs, hcs⟩ : ∃ cs, cs = cellsA false (bs ++ List.replicate (16 - bs.length) 0) := ⟨_, rfl⟩
    have hz : cs.size = 17 := by rw [hcs, cellsA_size, List.length_append, List.length_replicate]; omega
    have HZ := Lib.hid (i24.trans (congrArg some hz.symm))
    have HZ2 := Lib.hid (hz.trans (cellsA_size false (List.replicate 16 0)).symm)
    have HAll := Lib.hid (show cs.all (·.oneCell') = true by rw [hcs]; exact cellsA_all _ _)
    have HSP := Lib.hid ((splice_at false bs (by omega)).trans hcs.symm)
    have HC := Lib.hid hcs
    have HL := Lib.hid h4
    have HO := Lib.hid ((Blk.new w 25 (cellsA false (List.replicate 16 0))).alloc (.cells (cellsA false (List.replicate 16 0)) 25))
    have HN := Lib.hid (show Blk ((w.alloc (.cells (cellsA false (List.replicate 16 0)) 25)).alloc (.cells (cellsA false (List.replicate 16 0)) 25)) (w.heap.size + 1) 25 (cellsA false (List.replicate 16 0)) by
      have := Blk.new (w.alloc (.cells (cellsA false (List.replicate 16 0)) 25)) 25 (cellsA false (List.replicate 16 0)); rw [World.size_alloc] at this; exact this)
    have HCE := Lib.hid hcell
    have HB := Lib.hid ((((Below.refl w.heap.size w).alloc (Nat.le_refl _) (.cells (cellsA false (List.replicate 16 0)) 25)).alloc (by simp) (.cells (cellsA false (List.replicate 16 0)) 25)))
    clear hcell hcell0 hz hcs
    rw [HL.out]
    clear d4
    have d4 : (((4 : Int)) != 4) = false := by rfl
    clear d4
    go_enter Try.func19, Try.ntmps19
    go_wp2_with ((with_reducible refine wpList_copy_splice (o := ⟨some 21, _, _, _, _, _⟩) rfl (.tmp 19) (.tmp 20) 22 22 rfl 5 Try.underlying22 info5_size _ _ _ _ _ _ rfl rfl (w.heap.size + 1) 1 (cellsA false (List.replicate 16 0)).toList 25 ?cg4 (nus .u8 bs) ?cn4 ?cp4 ?cf4 ?co4 (w.heap.size + 1) _ (Below.refl _ _) (Nat.le_refl _) ?_))
    case cg4 => rw [Array.toArray_toList]; exact HN.out
    case cn4 => rw [nus_length, HL.out]; rfl
    case cp4 =>
      intro _ j u hj
      have hjl : j < bs.length := by have := (List.getElem?_eq_some_iff.1 hj).1; rwa [nus_length] at this
      rw [nus_get _ _ _ hjl] at hj
      cases hj
      exact HCE.out j hjl
    case cf4 => rw [nus_length, HL.out]; decide
    case co4 => exact oneCell_nus _ _
    intro W2 hg2 hb2
    have h2 : W2.heap[w.heap.size + 1]? = some (.cells (splice (cellsA false (List.replicate 16 0)).toList 1 (nus .u8 bs)).toArray 25 (0, 0)) := hg2.out
    rw [HSP.out] at h2
    have HW2 := Lib.hid (show Blk W2 (w.heap.size + 1) 25 cs from h2)
    have HO2 := Lib.hid (show Blk W2 w.heap.size 25 (cellsA false (List.replicate 16 0)) from (hb2.block _ (Nat.lt_succ_self _)).trans HO.out)
    have HB2 := Lib.hid (HB.out.trans (hb2.mono (Nat.le_succ _)))
    clear h2 hg2 hb2
    go_wp2_with (first
      | ((with_reducible refine wpList_blk_load (op := ⟨some 22, .load 25 (.tmp 4), _, _, _, _⟩) ?lg1 25 (.tmp 4) ?lo1 (w.heap.size + 1) ?lx1 _ HW2.out Try.underlying25 ?ld1 HZ.out ?_); (case lg1 => rfl); (case lo1 => rfl); (case lx1 => rfl); (case ld1 => rfl))
      | ((with_reducible refine wpList_blk_store (op := ⟨none, .store 25 (.tmp 2) (.tmp 22), _, _, _, _⟩) ?sg1 25 (.tmp 2) (.tmp 22) ?so1 w.heap.size cs ?sx1 ?sy1 HO2.out HZ2.out HZ.out HAll.out ?_); (case sg1 => rfl); (case so1 => rfl); (case sx1 => rfl); (case sy1 => rfl)))
    intro w3 hA hF hB
    have HF := Lib.hid hF
    have HA := Lib.hid hA
    clear hF hA
    go_wp2
    have hrun := run_blk_load (P := Try.prog) 25 w.heap.size _ HA.out Try.underlying25 rfl HZ.out
    refine bodyPost_ret (results_cell_tmp 2 25 3 w.heap.size _ Try.results19 rfl hrun) rfl ⟨?_, HB2.out.trans (hB _ (Nat.le_refl _))⟩
    rw [HC.out, HL.out]
    rfl
  · have d4 : (((16 : Nat) : Int) != 4) = true := by rfl
    have hcell := hcell0
    obtain ⟨cs, hcs⟩ : ∃ cs, cs = cellsA true (bs ++ List.replicate (16 - bs.length) 0) := ⟨_, rfl⟩
    have hz : cs.size = 17 := by rw [hcs, cellsA_size, List.length_append, List.length_replicate]; omega
    have HZ := Lib.hid (i24.trans (congrArg some hz.symm))
    have HZ2 := Lib.hid (hz.trans (cellsA_size false (List.replicate 16 0)).symm)
    have HAll := Lib.hid (show cs.all (·.oneCell') = true by rw [hcs]; exact cellsA_all _ _)
    have HSP := Lib.hid ((splice_at true bs (by omega)).trans hcs.symm)
    have HC := Lib.hid hcs
    have HL := Lib.hid h16
    have HO := Lib.hid ((Blk.new w 25 (cellsA false (List.replicate 16 0))).alloc (.cells (cellsA true (List.replicate 16 0)) 25))
    have HN := Lib.hid (show Blk ((w.alloc (.cells (cellsA false (List.replicate 16 0)) 25)).alloc (.cells (cellsA true (List.replicate 16 0)) 25)) (w.heap.size + 1) 25 (cellsA true (List.replicate 16 0)) by
      have := Blk.new (w.alloc (.cells (cellsA false (List.replicate 16 0)) 25)) 25 (cellsA true (List.replicate 16 0)); rw [World.size_alloc] at this; exact this)
    have HCE := Lib.hid hcell
    have HB := Lib.hid ((((Below.refl w.heap.size w).alloc (Nat.le_refl _) (.cells (cellsA false (List.replicate 16 0)) 25)).alloc (by simp) (.cells (cellsA true (List.replicate 16 0)) 25)))
    clear hcell hcell0 hz hcs
    rw [HL.out]
    clear d4
    have d4 : (((4 : Int)) != 4) = false := by rfl
    clear d4
    go_enter Try.func19, Try.ntmps19
    go_wp2_with ((with_reducible refine wpList_copy_splice (o := ⟨some 21, _, _, _, _, _⟩) rfl (.tmp 19) (.tmp 20) 22 22 rfl 5 Try.underlying22 info5_size _ _ _ _ _ _ rfl rfl (w.heap.size + 1) 1 (cellsA true (List.replicate 16 0)).toList 25 ?cg16 (nus .u8 bs) ?cn16 ?cp16 ?cf16 ?co16 (w.heap.size + 1) _ (Below.refl _ _) (Nat.le_refl _) ?_))
    case cg16 => rw [Array.toArray_toList]; exact HN.out
    case cn16 => rw [nus_length, HL.out]; rfl
    case cp16 =>
      intro _ j u hj
      have hjl : j < bs.length := by have := (List.getElem?_eq_some_iff.1 hj).1; rwa [nus_length] at this
      rw [nus_get _ _ _ hjl] at hj
      cases hj
      exact HCE.out j hjl
    case cf16 => rw [nus_length, HL.out]; decide
    case co16 => exact oneCell_nus _ _
    intro W2 hg2 hb2
    have h2 : W2.heap[w.heap.size + 1]? = some (.cells (splice (cellsA true (List.replicate 16 0)).toList 1 (nus .u8 bs)).toArray 25 (0, 0)) := hg2.out
    rw [HSP.out] at h2
    have HW2 := Lib.hid (show Blk W2 (w.heap.size + 1) 25 cs from h2)
    have HO2 := Lib.hid (show Blk W2 w.heap.size 25 (cellsA false (List.replicate 16 0)) from (hb2.block _ (Nat.lt_succ_self _)).trans HO.out)
    have HB2 := Lib.hid (HB.out.trans (hb2.mono (Nat.le_succ _)))
    clear h2 hg2 hb2
    go_wp2_with (first
      | ((with_reducible refine wpList_blk_load (op := ⟨some 22, .load 25 (.tmp 4), _, _, _, _⟩) ?lg2 25 (.tmp 4) ?lo2 (w.heap.size + 1) ?lx2 _ HW2.out Try.underlying25 ?ld2 HZ.out ?_); (case lg2 => rfl); (case lo2 => rfl); (case lx2 => rfl); (case ld2 => rfl))
      | ((with_reducible refine wpList_blk_store (op := ⟨none, .store 25 (.tmp 2) (.tmp 22), _, _, _, _⟩) ?sg2 25 (.tmp 2) (.tmp 22) ?so2 w.heap.size cs ?sx2 ?sy2 HO2.out HZ2.out HZ.out HAll.out ?_); (case sg2 => rfl); (case so2 => rfl); (case sx2 => rfl); (case sy2 => rfl)))
    intro w3 hA hF hB
    have HF := Lib.hid hF
    have HA := Lib.hid hA
    clear hF hA
    go_wp2
    have hrun := run_blk_load (P := Try.prog) 25 w.heap.size _ HA.out Try.underlying25 rfl HZ.out
    refine bodyPost_ret (results_cell_tmp 2 25 3 w.heap.size _ Try.results19 rfl hrun) rfl ⟨?_, HB2.out.trans (hB _ (Nat.le_refl _))⟩
    rw [HC.out, HL.out]
    rfl
end Go.Proofs.Ytnfanenaighflaa

/- Contracts of the library of Go that these walks come to, laid at this dump (the text is printed by a program of the guide, the unneeded rows struck). -/
namespace Go.Proofs.Ytnfanenaighflaa
open Go.Shelf
def Try.laysSlK4_ren : Go.Shelf.Ren := ⟨fun | 4 => 26 | n => n, fun | 22 => 22 | 4 => 4 | 5 => 5 | n => n, fun | n => n⟩
theorem Try.laysSlK4 : Go.Proofs.SlLaysK.n4 Try.prog Try.laysSlK4_ren := {
  mixed := by kernel_rfl
  f4 := Try.func26.trans (congrArg some (by kernel_rfl))
  t4 := Try.underlying4
  a4 := Try.isAgg4
  z4 := Try.sizeOf4
  v4 := Try.zeroValue4
  t22 := Try.underlying22
  a22 := Try.isAgg22
  z22 := Try.sizeOf22
  v22 := Try.zeroValue22
  t5 := Try.underlying5
  i5 := by kernel_rfl }
open Go.RowKit Go.Lib in
theorem Try.bytes_Clone_at (a : Addr) (n c : Nat) (xs : List Int) (w : World) (hx : xs.length = n) (hbig : n ≤ 140737488355328) (hc : ∀ i, i < n → w.cell? (a.add i) = some (.int .u8 (xs.getD i 0))) :
    Calls Try.prog 26 #[.slice (some a) n c] w fun e w' => ∃ v', e = .returned v' ∧ w'.ownsRow w.heap.size 5 1 v' n (xs.map (Value.int .u8)) ∧ v' ≠ .slice none 0 0 ∧ Below w.heap.size w w' := Any.bytes_Clone_at Try.laysSlK4 a n c xs w hx hbig hc
end Go.Proofs.Ytnfanenaighflaa

/- Rows written out; a row of the call's own while only new memory is made. -/
namespace Go.Proofs.Ytnfanenaighflaa
open Go.RowKit

theorem own_lit (w : World) (k : IntKind) (e : TypeId) (zs : List Nat) (n base : Nat) (hn : zs.length = n) (hm : n ≤ maxLen) (hb : base ≤ w.heap.size) :
    (w.alloc (.cells (nus k zs).toArray e)).ownsRow base e 1 (.slice (some ⟨w.heap.size, 0, none⟩) n n) n (nus k zs) :=
  own_of_heap (World.alloc_heap_new w _) hb (by rw [nus_length]; exact hn) hm

theorem rd_lit (w : World) (k : IntKind) (e : TypeId) (zs : List Nat) (n : Nat) (m : Nat × Nat) (hn : zs.length = n) (hm : n ≤ maxLen) :
    Rd (w.alloc (.cells (nus k zs).toArray e m)) (.slice (some ⟨w.heap.size, 0, none⟩) n n) (nus k zs) := by
  subst hn
  refine ⟨_, _, by rw [nus_length], by rw [nus_length]; exact Nat.le_refl _, hm, .inr ⟨_, _, rfl, by simp, fun i hi => ?_⟩⟩
  rw [Nat.zero_add, cell_of_row _ _ i (nus k zs).toArray e m (World.alloc_heap_new w _)]
  simp

theorem row_under {w w' : World} {base : Nat} {e : TypeId} {v : Value} {n : Nat} {xs : List Value} (h : w.ownsRow base e 1 v n xs) (hb : Below w.heap.size w w') : w'.ownsRow base e 1 v n xs := by
  obtain ⟨h1, h2⟩ := h
  refine ⟨h1, ?_⟩
  rcases h2 with h2 | ⟨g, cap', cur, rfl, hh, h4, hn, hm, h5⟩
  · exact .inl h2
  · refine .inr ⟨g, cap', cur, rfl, hh, ?_, hn, hm, h5⟩
    have hg : g < w.heap.size := (Array.getElem?_eq_some_iff.1 h4).1
    rw [hb.block g hg]; exact h4
/-- A row of the call's own, told of less; while another block turns. -/
theorem own_low {w : World} {b1 b2 : Nat} {e : TypeId} {v : Value} {n : Nat} {xs : List Value} (hb : b1 ≤ b2) (h : w.ownsRow b2 e 1 v n xs) : w.ownsRow b1 e 1 v n xs := by
  obtain ⟨h1, h2⟩ := h
  refine ⟨h1, ?_⟩
  rcases h2 with h2 | ⟨g, cap', cur, rfl, hh, h4⟩
  · exact .inl h2
  · exact .inr ⟨g, cap', cur, rfl, Nat.le_trans hb hh, h4⟩
theorem own_apart {w w' : World} {base g : Nat} {e : TypeId} {v : Value} {n : Nat} {xs : List Value} (h : w.ownsRow base e 1 v n xs) (hg : w.grownBy w' (some g)) (h0 : g < base) : w'.ownsRow base e 1 v n xs := by
  obtain ⟨h1, h2⟩ := h
  refine ⟨h1, ?_⟩
  rcases h2 with h2 | ⟨k, cap', cur, rfl, hh, h4, hn, hm, h5⟩
  · exact .inl h2
  · have hk : k < w.heap.size := (Array.getElem?_eq_some_iff.1 h4).1
    exact .inr ⟨k, cap', cur, rfl, hh, (hg.block k hk (by simp; omega)).trans h4, hn, hm, h5⟩
end Go.Proofs.Ytnfanenaighflaa

/- addr.Bytes. -/
namespace Go.Proofs.Ytnfanenaighflaa
open Go.RowKit Go.Lib

set_option maxHeartbeats 1000000 in
theorem bytes_six (b0 b1 b2 b3 b4 b5 b6 b7 b8 b9 b10 b11 b12 b13 b14 b15 : Nat) (w : World) :
    Calls Try.prog 24 #[.agg #[.bool true, .int .u8 (b0 : Int), .int .u8 (b1 : Int), .int .u8 (b2 : Int), .int .u8 (b3 : Int), .int .u8 (b4 : Int), .int .u8 (b5 : Int), .int .u8 (b6 : Int), .int .u8 (b7 : Int), .int .u8 (b8 : Int), .int .u8 (b9 : Int), .int .u8 (b10 : Int), .int .u8 (b11 : Int), .int .u8 (b12 : Int), .int .u8 (b13 : Int), .int .u8 (b14 : Int), .int .u8 (b15 : Int)]] w fun e w' => ∃ v, e = .returned v ∧ w'.ownsRow w.heap.size 5 1 v 16 (nus .u8 [b0, b1, b2, b3, b4, b5, b6, b7, b8, b9, b10, b11, b12, b13, b14, b15]) ∧ Below w.heap.size w w' := by
  have hb := Blk.new w 25 #[.bool true, .int .u8 (b0 : Int), .int .u8 (b1 : Int), .int .u8 (b2 : Int), .int .u8 (b3 : Int), .int .u8 (b4 : Int), .int .u8 (b5 : Int), .int .u8 (b6 : Int), .int .u8 (b7 : Int), .int .u8 (b8 : Int), .int .u8 (b9 : Int), .int .u8 (b10 : Int), .int .u8 (b11 : Int), .int .u8 (b12 : Int), .int .u8 (b13 : Int), .int .u8 (b14 : Int), .int .u8 (b15 : Int)]
  have C := Lib.hid (Try.bytes_Clone_at ⟨w.heap.size, 1, none⟩ 16 16 ([b0, b1, b2, b3, b4, b5, b6, b7, b8, b9, b10, b11, b12, b13, b14, b15].map fun n : Nat => (n : Int)) (w.alloc (.cells #[.bool true, .int .u8 (b0 : Int), .int .u8 (b1 : Int), .int .u8 (b2 : Int), .int .u8 (b3 : Int), .int .u8 (b4 : Int), .int .u8 (b5 : Int), .int .u8 (b6 : Int), .int .u8 (b7 : Int), .int .u8 (b8 : Int), .int .u8 (b9 : Int), .int .u8 (b10 : Int), .int .u8 (b11 : Int), .int .u8 (b12 : Int), .int .u8 (b13 : Int), .int .u8 (b14 : Int), .int .u8 (b15 : Int)] 25)) rfl (by omega) (fun i hi => by
    rw [Addr.add_mid, hb.cell (1 + i)]
    have h : i = 0 ∨ i = 1 ∨ i = 2 ∨ i = 3 ∨ i = 4 ∨ i = 5 ∨ i = 6 ∨ i = 7 ∨ i = 8 ∨ i = 9 ∨ i = 10 ∨ i = 11 ∨ i = 12 ∨ i = 13 ∨ i = 14 ∨ i = 15 := by omega
    rcases h with rfl | rfl | rfl | rfl | rfl | rfl | rfl | rfl | rfl | rfl | rfl | rfl | rfl | rfl | rfl | rfl <;> rfl))
  clear hb
  go_enter Try.func24, Try.ntmps24
  go_wp2_with (go_at_call 26; refine C.out.mono ?_; rintro e w1 ⟨v, rfl, ho, hn, hb1⟩)
  go_ret
  refine ⟨v, rfl, (by have h9 := own_low (b1 := w.heap.size) (by simp) ho; simpa [nus] using h9), ((Below.refl _ w).alloc (Nat.le_refl _) _).trans (hb1.mono (by simp))⟩

set_option maxHeartbeats 1000000 in
theorem bytes_four (b0 b1 b2 b3 b4 b5 b6 b7 b8 b9 b10 b11 b12 b13 b14 b15 : Nat) (w : World) :
    Calls Try.prog 24 #[.agg #[.bool false, .int .u8 (b0 : Int), .int .u8 (b1 : Int), .int .u8 (b2 : Int), .int .u8 (b3 : Int), .int .u8 (b4 : Int), .int .u8 (b5 : Int), .int .u8 (b6 : Int), .int .u8 (b7 : Int), .int .u8 (b8 : Int), .int .u8 (b9 : Int), .int .u8 (b10 : Int), .int .u8 (b11 : Int), .int .u8 (b12 : Int), .int .u8 (b13 : Int), .int .u8 (b14 : Int), .int .u8 (b15 : Int)]] w fun e w' => ∃ v, e = .returned v ∧ w'.ownsRow w.heap.size 5 1 v 4 (nus .u8 [b0, b1, b2, b3]) ∧ Below w.heap.size w w' := by
  have hb := Blk.new w 25 #[.bool false, .int .u8 (b0 : Int), .int .u8 (b1 : Int), .int .u8 (b2 : Int), .int .u8 (b3 : Int), .int .u8 (b4 : Int), .int .u8 (b5 : Int), .int .u8 (b6 : Int), .int .u8 (b7 : Int), .int .u8 (b8 : Int), .int .u8 (b9 : Int), .int .u8 (b10 : Int), .int .u8 (b11 : Int), .int .u8 (b12 : Int), .int .u8 (b13 : Int), .int .u8 (b14 : Int), .int .u8 (b15 : Int)]
  have C := Lib.hid (Try.bytes_Clone_at ⟨w.heap.size, 1, none⟩ 4 16 ([b0, b1, b2, b3].map fun n : Nat => (n : Int)) (w.alloc (.cells #[.bool false, .int .u8 (b0 : Int), .int .u8 (b1 : Int), .int .u8 (b2 : Int), .int .u8 (b3 : Int), .int .u8 (b4 : Int), .int .u8 (b5 : Int), .int .u8 (b6 : Int), .int .u8 (b7 : Int), .int .u8 (b8 : Int), .int .u8 (b9 : Int), .int .u8 (b10 : Int), .int .u8 (b11 : Int), .int .u8 (b12 : Int), .int .u8 (b13 : Int), .int .u8 (b14 : Int), .int .u8 (b15 : Int)] 25)) rfl (by omega) (fun i hi => by
    rw [Addr.add_mid, hb.cell (1 + i)]
    have h : i = 0 ∨ i = 1 ∨ i = 2 ∨ i = 3 := by omega
    rcases h with rfl | rfl | rfl | rfl <;> rfl))
  clear hb
  go_enter Try.func24, Try.ntmps24
  go_wp2_with (go_at_call 26; refine C.out.mono ?_; rintro e w1 ⟨v, rfl, ho, hn, hb1⟩)
  go_ret
  refine ⟨v, rfl, (by have h9 := own_low (b1 := w.heap.size) (by simp) ho; simpa [nus] using h9), ((Below.refl _ w).alloc (Nat.le_refl _) _).trans (hb1.mono (by simp))⟩

end Go.Proofs.Ytnfanenaighflaa

/- The document's own Valid, as the statements have it. -/
namespace Go.Proofs.Ytnfanenaighflaa
open Go.RowKit Go.Lib

theorem cell17 (v : Bool) (b0 b1 b2 b3 b4 b5 b6 b7 b8 b9 b10 b11 b12 b13 b14 b15 : Nat) (w : World) (k : Nat) (hk : k < 16) :
    (w.alloc (.cells #[.bool v, .int .u8 (b0 : Int), .int .u8 (b1 : Int), .int .u8 (b2 : Int), .int .u8 (b3 : Int), .int .u8 (b4 : Int), .int .u8 (b5 : Int), .int .u8 (b6 : Int), .int .u8 (b7 : Int), .int .u8 (b8 : Int), .int .u8 (b9 : Int), .int .u8 (b10 : Int), .int .u8 (b11 : Int), .int .u8 (b12 : Int), .int .u8 (b13 : Int), .int .u8 (b14 : Int), .int .u8 (b15 : Int)] 25)).cell? ⟨w.heap.size, 1 + k, none⟩ = some (.int .u8 (([b0, b1, b2, b3, b4, b5, b6, b7, b8, b9, b10, b11, b12, b13, b14, b15].getD k 0 : Nat) : Int)) := by
  rw [(Blk.new w 25 #[.bool v, .int .u8 (b0 : Int), .int .u8 (b1 : Int), .int .u8 (b2 : Int), .int .u8 (b3 : Int), .int .u8 (b4 : Int), .int .u8 (b5 : Int), .int .u8 (b6 : Int), .int .u8 (b7 : Int), .int .u8 (b8 : Int), .int .u8 (b9 : Int), .int .u8 (b10 : Int), .int .u8 (b11 : Int), .int .u8 (b12 : Int), .int .u8 (b13 : Int), .int .u8 (b14 : Int), .int .u8 (b15 : Int)]).cell (1 + k)]
  have h : k = 0 ∨ k = 1 ∨ k = 2 ∨ k = 3 ∨ k = 4 ∨ k = 5 ∨ k = 6 ∨ k = 7 ∨ k = 8 ∨ k = 9 ∨ k = 10 ∨ k = 11 ∨ k = 12 ∨ k = 13 ∨ k = 14 ∨ k = 15 := by omega
  rcases h with rfl | rfl | rfl | rfl | rfl | rfl | rfl | rfl | rfl | rfl | rfl | rfl | rfl | rfl | rfl | rfl <;> rfl

set_option maxRecDepth 100000 in
set_option maxHeartbeats 1000000 in
theorem ref_valid (v : Bool) (b0 b1 b2 b3 b4 b5 b6 b7 b8 b9 b10 b11 b12 b13 b14 b15 : Nat) (w : World) :
    Calls Try.prog 7 #[.agg #[.bool v, .int .u8 (b0 : Int), .int .u8 (b1 : Int), .int .u8 (b2 : Int), .int .u8 (b3 : Int), .int .u8 (b4 : Int), .int .u8 (b5 : Int), .int .u8 (b6 : Int), .int .u8 (b7 : Int), .int .u8 (b8 : Int), .int .u8 (b9 : Int), .int .u8 (b10 : Int), .int .u8 (b11 : Int), .int .u8 (b12 : Int), .int .u8 (b13 : Int), .int .u8 (b14 : Int), .int .u8 (b15 : Int)]] w fun e w' => e = .returned (.bool (vldA v [b0, b1, b2, b3, b4, b5, b6, b7, b8, b9, b10, b11, b12, b13, b14, b15])) ∧ Below w.heap.size w w' := by
  have hc := cell17 v b0 b1 b2 b3 b4 b5 b6 b7 b8 b9 b10 b11 b12 b13 b14 b15 w
  have hc0 : (w.alloc (.cells #[.bool v, .int .u8 (b0 : Int), .int .u8 (b1 : Int), .int .u8 (b2 : Int), .int .u8 (b3 : Int), .int .u8 (b4 : Int), .int .u8 (b5 : Int), .int .u8 (b6 : Int), .int .u8 (b7 : Int), .int .u8 (b8 : Int), .int .u8 (b9 : Int), .int .u8 (b10 : Int), .int .u8 (b11 : Int), .int .u8 (b12 : Int), .int .u8 (b13 : Int), .int .u8 (b14 : Int), .int .u8 (b15 : Int)] 25)).cell? ⟨w.heap.size, 0, none⟩ = some (.bool v) := (Blk.new w 25 _).cell 0
  obtain ⟨bs, hbs⟩ : ∃ bs, bs = [b0, b1, b2, b3, b4, b5, b6, b7, b8, b9, b10, b11, b12, b13, b14, b15] := ⟨_, rfl⟩
  obtain ⟨W, hW⟩ : ∃ W, W = w.alloc (.cells #[.bool v, .int .u8 (b0 : Int), .int .u8 (b1 : Int), .int .u8 (b2 : Int), .int .u8 (b3 : Int), .int .u8 (b4 : Int), .int .u8 (b5 : Int), .int .u8 (b6 : Int), .int .u8 (b7 : Int), .int .u8 (b8 : Int), .int .u8 (b9 : Int), .int .u8 (b10 : Int), .int .u8 (b11 : Int), .int .u8 (b12 : Int), .int .u8 (b13 : Int), .int .u8 (b14 : Int), .int .u8 (b15 : Int)] 25) := ⟨_, rfl⟩
  have HL := Lib.hid (show Below w.heap.size w W by rw [hW]; exact (Below.refl _ w).alloc (Nat.le_refl _) _)
  rw [← hbs] at hc ⊢
  have HB := Lib.hid hbs
  have HC := Lib.hid hc
  have HC0 := Lib.hid hc0
  clear hbs hc hc0
  go_enter Try.func7, Try.ntmps7
  go_wp2
  rw [← hW]
  rw [← hW] at HC HC0
  clear hW
  go_loop [3] (fun i => ∃ k : Nat, 4 ≤ k ∧ k ≤ 16 ∧ i = .int .i64 k ∧ Hid (v = true ∨ ∀ j, 4 ≤ j → j < k → bs.getD j 0 = 0)) (fun i => 16 - (RowKit.intOf i).toNat)
  case atStart => exact ⟨4, by omega, by omega, rfl, Lib.hid (.inr fun j h1 h2 => by omega)⟩
  case round =>
    obtain ⟨k, hk4, hk16, rfl, hall⟩ := hrel
    by_cases hlt : k < 16
    · have hck := HC.out k hlt
      have hcv := HC0.out
      obtain ⟨x, hx⟩ : ∃ x, x = bs.getD k 0 := ⟨_, rfl⟩
      rw [← hx] at hck
      have HX := Lib.hid hx
      clear hx
      cases v with
      | true =>
        go_wp2
        go_round
        case rel => exact ⟨k + 1, by omega, by omega, by go_num, Lib.hid (by simp)⟩
        case measure => simp [RowKit.intOf]; omega
      | false =>
        by_cases h0 : x = 0
        · subst h0
          go_wp2
          go_round
          case rel =>
            refine ⟨k + 1, by omega, by omega, by go_num, Lib.hid (.inr fun j h1 h2 => ?_)⟩
            by_cases hj : j = k
            · rw [hj]; exact HX.out.symm
            · rcases hall.out with h | h
              · cases h
              · exact h j h1 (by omega)
          case measure => simp [RowKit.intOf]; omega
        · have hne : ((x : Int) != 0) = true := by rw [bne_iff_ne]; omega
          have HV := Lib.hid (show vldA false bs = false by
            rcases hq : vldA false bs with _ | _
            · rfl
            · rcases vldA_spec.1 hq with h | h
              · cases h
              · exact absurd (HX.out.trans (h k hk4 hlt)) h0)
          clear h0
          go_wp2
          go_ret
          exact ⟨by rw [HV.out]; rfl, HL.out⟩
    · have HV := Lib.hid (show vldA v bs = true from vldA_spec.2 (by
        rcases hall.out with h | h
        · exact .inl h
        · exact .inr fun i h1 h2 => h i h1 (by omega)))
      go_wp2
      go_ret
      exact ⟨by rw [HV.out]; rfl, HL.out⟩
end Go.Proofs.Ytnfanenaighflaa

