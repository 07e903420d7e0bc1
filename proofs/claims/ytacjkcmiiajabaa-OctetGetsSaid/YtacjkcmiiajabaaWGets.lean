/- OctetGets: the number of each size at whatever place: the four calls, the loop over the four sizes; region 14 (37 operations, one call) is taken operation by operation. -/
import Derived.Test.YtacjkcmiiajabaaOctL
import Derived.Test.YtacjkcmiiajabaaRow
import Derived.Test.YtacjkcmiiajabaaJoin
import Derived.Deep.RegionHeld3
import Derived.Deep.DeepCutAuto
import Derived.Deep.RegionWith
import Derived.IntWalk
namespace Go.Proofs.Ytacjkcmiiajabaa
open Go.RowKit

set_option maxRecDepth 100000 in
set_option maxHeartbeats 2000000 in
theorem gets_walk_long (a : Option Addr) (len cap : Nat) (at0 : Int) (w : World) (hc : len ≤ maxLen) (h : 200 < len) :
    Calls Try.prog 3 #[.slice a len cap, .int .i64 at0] w fun e w' => e = .returned (.bool true) ∧ Below w.heap.size w w' := by
  unfold maxLen at hc
  go_enter Try.func3, Try.ntmps3
  go_wp2_with fail
  refine (awake_any _).mono ?_
  rintro e w2 ⟨rfl, hb⟩
  go_wp2
  go_ret
  exact ⟨rfl, hb⟩

/-- Whether so many bytes are there. -/
def there (len : Nat) (at0 : Int) (n : Nat) : Prop := 0 ≤ at0 ∧ at0 + n ≤ len
instance (len : Nat) (at0 : Int) (n : Nat) : Decidable (there len at0 n) := inferInstanceAs (Decidable (_ ∧ _))
/-- The number that is there. -/
def thing (bs : List Nat) (at0 : Int) (n : Nat) : Nat := if there bs.length at0 n then be ((bs.drop at0.toNat).take n) else 0

theorem Rd.sub {w : World} {b o len cap : Nat} {k : IntKind} {bs : List Nat} (h : Rd w (.slice (some ⟨b, o, none⟩) len cap) (nus k bs)) (i n : Nat) (hn : i + n ≤ len) (h0 : 0 < n) : Rd w (.slice (some ⟨b, o + i, none⟩) n (cap - i)) (nus k ((bs.drop i).take n)) := by
  obtain ⟨a', cap', e, h1, h2, h3⟩ := h
  simp only [Value.slice.injEq] at e
  obtain ⟨rfl, rfl, rfl⟩ := e
  rw [nus_length] at h1 h3 hn
  have hl : (nus k ((bs.drop i).take n)).length = n := by rw [nus_length]; simp; omega
  refine ⟨_, _, by rw [hl], by rw [hl]; omega, by omega, ?_⟩
  rcases h3 with h3 | ⟨b', off, e, hb, hcc⟩
  · obtain rfl := (nus_nil _ _).1 h3
    simp at hn; omega
  · cases e
    refine .inr ⟨b, o + i, rfl, hb, fun j hj => ?_⟩
    rw [hl] at hj
    rw [Nat.add_assoc, hcc (i + j) (by omega)]
    simp [nus, hj]
theorem not_there (len s : Nat) (at0 : Int) (h : ¬ there len at0 s) (h0 : ¬ at0 < 0) : decide ((s : Int) ≤ (len : Int) - at0) = false := by
  unfold there at h
  simp only [decide_eq_false_iff_not]
  omega
theorem get8_all (v : Value) (bs : List Nat) (at0 : Int) (w : World) (hr : Rd w v (nus .u8 bs)) (hb : ∀ c ∈ bs, c < 256) :
    Calls Try.prog 9 #[v, .int .i64 at0] w fun e w' => e = .returned (.tuple #[.int .u8 (thing bs at0 1 : Nat), .bool (decide (there bs.length at0 1))]) ∧ w = w' := by
  unfold thing
  by_cases h : there bs.length at0 1
  · obtain ⟨k, rfl⟩ := Int.eq_ofNat_of_zero_le h.1
    rw [if_pos h, decide_eq_true h]
    exact get8_yes v k bs w hr hb (by have := h.2; omega)
  · obtain ⟨a, cap, rfl, hl, hc⟩ := rd_shape hr
    rw [if_neg h, decide_eq_false h]
    exact get8_no a bs.length cap at0 w (by omega) (by unfold there at h; omega)
theorem get16_all (v : Value) (bs : List Nat) (at0 : Int) (w : World) (hr : Rd w v (nus .u8 bs)) (hb : ∀ c ∈ bs, c < 256) :
    Calls Try.prog 10 #[v, .int .i64 at0] w fun e w' => e = .returned (.tuple #[.int .u16 (thing bs at0 2 : Nat), .bool (decide (there bs.length at0 2))]) ∧ w = w' := by
  unfold thing
  by_cases h : there bs.length at0 2
  · obtain ⟨k, rfl⟩ := Int.eq_ofNat_of_zero_le h.1
    rw [if_pos h, decide_eq_true h]
    exact get16_yes v k bs w hr hb (by have := h.2; omega)
  · obtain ⟨a, cap, rfl, hl, hc⟩ := rd_shape hr
    rw [if_neg h, decide_eq_false h]
    exact get16_no a bs.length cap at0 w (by omega) (by unfold there at h; omega)
theorem get32_all (v : Value) (bs : List Nat) (at0 : Int) (w : World) (hr : Rd w v (nus .u8 bs)) (hb : ∀ c ∈ bs, c < 256) :
    Calls Try.prog 11 #[v, .int .i64 at0] w fun e w' => e = .returned (.tuple #[.int .u32 (thing bs at0 4 : Nat), .bool (decide (there bs.length at0 4))]) ∧ w = w' := by
  unfold thing
  by_cases h : there bs.length at0 4
  · obtain ⟨k, rfl⟩ := Int.eq_ofNat_of_zero_le h.1
    rw [if_pos h, decide_eq_true h]
    exact get32_yes v k bs w hr hb (by have := h.2; omega)
  · obtain ⟨a, cap, rfl, hl, hc⟩ := rd_shape hr
    rw [if_neg h, decide_eq_false h]
    exact get32_no a bs.length cap at0 w (by omega) (by unfold there at h; omega)
theorem get64_all (v : Value) (bs : List Nat) (at0 : Int) (w : World) (hr : Rd w v (nus .u8 bs)) (hb : ∀ c ∈ bs, c < 256) :
    Calls Try.prog 12 #[v, .int .i64 at0] w fun e w' => e = .returned (.tuple #[.int .u64 (thing bs at0 8 : Nat), .bool (decide (there bs.length at0 8))]) ∧ w = w' := by
  unfold thing
  by_cases h : there bs.length at0 8
  · obtain ⟨k, rfl⟩ := Int.eq_ofNat_of_zero_le h.1
    rw [if_pos h, decide_eq_true h]
    exact get64_yes v k bs w hr hb (by have := h.2; omega)
  · obtain ⟨a, cap, rfl, hl, hc⟩ := rd_shape hr
    rw [if_neg h, decide_eq_false h]
    exact get64_no a bs.length cap at0 w (by omega) (by unfold there at h; omega)
theorem sum_i64 (k s : Nat) (h : k + s ≤ 9223372036854775807) : IntKind.i64.wrap ((k : Int) + (s : Int)) = ((k + s : Nat) : Int) := by
  rw [IntWalk.i64_in _ ⟨by omega, by omega⟩]; omega
theorem cap_ne {cap k s : Nat} (e : cap = k) (h : 1 ≤ s) : ¬ k + s ≤ cap := by omega
theorem hkl_of (len s k : Nat) (at0 : Int) (h : at0 + (s : Int) ≤ (len : Int)) (hk : at0 = k) : k + s ≤ len := by omega
theorem hg3_of (len s k : Nat) (h : k + s ≤ len) : decide ((s : Int) ≤ (len : Int) - (k : Int)) = true := decide_eq_true (by omega)
theorem take_drop_len (bs : List Nat) (k s : Nat) (h : k + s ≤ bs.length) : ((bs.drop k).take s).length = s := by rw [List.length_take, List.length_drop]; omega
theorem be_lt64 (l : List Nat) (hb : ∀ c ∈ l, c < 256) (hl : l.length ≤ 8) : be l < 18446744073709551616 :=
  Nat.lt_of_lt_of_le (be_lt l hb) (Nat.le_trans (pow_mono _ 8 hl) (by decide))
theorem thing_lt (bs : List Nat) (at0 : Int) (n : Nat) (hb : ∀ c ∈ bs, c < 256) : thing bs at0 n < 256 ^ n := by
  unfold thing
  split
  · rename_i h
    exact be_take_lt bs at0.toNat n hb (by have := h.1; have := h.2; omega)
  · exact Nat.pow_pos (by decide)

set_option maxRecDepth 100000 in
set_option maxHeartbeats 4000000 in
theorem gets_walk_short (va : Value) (bs : List Nat) (at0 : Int) (w : World) (hr : Rd w va (nus .u8 bs)) (hb : ∀ c ∈ bs, c < 256) (hat : -9223372036854775808 ≤ at0 ∧ at0 ≤ 9223372036854775807) (h1 : bs.length ≤ 200) :
    Calls Try.prog 3 #[va, .int .i64 at0] w fun e w' => e = .returned (.bool true) ∧ Below w.heap.size w w' := by
  have HR := Lib.hid hr
  obtain ⟨a, cap, rfl, hlc, hc⟩ := rd_shape hr
  have HB := Lib.hid hb
  have e8 := thing_lt bs at0 1 hb
  have e16 := thing_lt bs at0 2 hb
  have e32 := thing_lt bs at0 4 hb
  have e64 := thing_lt bs at0 8 hb
  have G8 := Lib.hid (get8_all _ bs at0 w hr hb)
  have G16 := Lib.hid (get16_all _ bs at0 w hr hb)
  have G32 := Lib.hid (get32_all _ bs at0 w hr hb)
  have G64 := Lib.hid (get64_all _ bs at0 w hr hb)
  obtain ⟨t1, ht1⟩ : ∃ t, t = thing bs at0 1 := ⟨_, rfl⟩
  obtain ⟨t2, ht2⟩ : ∃ t, t = thing bs at0 2 := ⟨_, rfl⟩
  obtain ⟨t4, ht4⟩ : ∃ t, t = thing bs at0 4 := ⟨_, rfl⟩
  obtain ⟨t8, ht8⟩ : ∃ t, t = thing bs at0 8 := ⟨_, rfl⟩
  rw [← ht1] at e8 G8
  rw [← ht2] at e16 G16
  rw [← ht4] at e32 G32
  rw [← ht8] at e64 G64
  simp only [Nat.reducePow] at e8 e16 e32 e64
  obtain ⟨len, hlen⟩ : ∃ len, len = bs.length := ⟨_, rfl⟩
  rw [← hlen] at hlc h1 HR G8 G16 G32 G64 ⊢
  have HL := Lib.hid hlen
  have T1 := Lib.hid ht1
  have T2 := Lib.hid ht2
  have T4 := Lib.hid ht4
  have T8 := Lib.hid ht8
  clear hlen hb hr ht1 ht2 ht4 ht8
  unfold maxLen at hc
  go_enter Try.func3, Try.ntmps3
  go_wp2_with fail
  refine G8.out.mono ?_
  rintro e w' ⟨rfl, rfl⟩
  go_wp2_with fail
  refine G16.out.mono ?_
  rintro e w' ⟨rfl, rfl⟩
  go_wp2_with fail
  refine G32.out.mono ?_
  rintro e w' ⟨rfl, rfl⟩
  go_wp2_with fail
  refine G64.out.mono ?_
  rintro e w' ⟨rfl, rfl⟩
  clear G8 G16 G32 G64
  go_wp2_with fail
  obtain ⟨W0, hW⟩ : ∃ W0, W0 = (w.alloc (.cells #[.int .u64 (t1 : Int), .int .u64 (t2 : Int), .int .u64 (t4 : Int), .int .u64 (t8 : Int)] 32)).alloc (.cells #[.bool (decide (there len at0 1)), .bool (decide (there len at0 2)), .bool (decide (there len at0 4)), .bool (decide (there len at0 8))] 4) := ⟨_, rfl⟩
  rw [← hW]
  have hB0 : Below w.heap.size w W0 := by rw [hW]; exact ((Below.refl _ w).alloc (Nat.le_refl _) _).alloc (by simp) _
  have hs0 : W0.heap.size = w.heap.size + 2 := by rw [hW]; simp
  have k1 : W0.heap[w.heap.size]? = some (.cells #[.int .u64 (t1 : Int), .int .u64 (t2 : Int), .int .u64 (t4 : Int), .int .u64 (t8 : Int)] 32 (0, 0)) := by
    rw [hW]; exact (Below.heap_alloc _ _ _ (by simp)).trans (World.alloc_heap_new w _)
  have k2 : W0.heap[w.heap.size + 1]? = some (.cells #[.bool (decide (there len at0 1)), .bool (decide (there len at0 2)), .bool (decide (there len at0 4)), .bool (decide (there len at0 8))] 4 (0, 0)) := by
    rw [hW]
    have := World.alloc_heap_new (w.alloc (.cells #[.int .u64 (t1 : Int), .int .u64 (t2 : Int), .int .u64 (t4 : Int), .int .u64 (t8 : Int)] 32)) (.cells #[.bool (decide (there len at0 1)), .bool (decide (there len at0 2)), .bool (decide (there len at0 4)), .bool (decide (there len at0 8))] 4)
    rwa [World.size_alloc] at this
  have hgot : ∀ j, j < 4 → W0.cell? ⟨w.heap.size, j, none⟩ = some (.int .u64 ((thing bs at0 (2 ^ j) : Nat) : Int)) := by
    intro j hj
    have h : j = 0 ∨ j = 1 ∨ j = 2 ∨ j = 3 := by omega
    rw [cell_of_row _ _ j _ _ _ k1]
    rcases h with rfl | rfl | rfl | rfl
    · rw [show thing bs at0 (2 ^ 0) = t1 from T1.out.symm]; rfl
    · rw [show thing bs at0 (2 ^ 1) = t2 from T2.out.symm]; rfl
    · rw [show thing bs at0 (2 ^ 2) = t4 from T4.out.symm]; rfl
    · rw [show thing bs at0 (2 ^ 3) = t8 from T8.out.symm]; rfl
  have hok : ∀ j, j < 4 → W0.cell? ⟨w.heap.size + 1, j, none⟩ = some (.bool (decide (there len at0 (2 ^ j)))) := by
    intro j hj
    have h : j = 0 ∨ j = 1 ∨ j = 2 ∨ j = 3 := by omega
    rw [cell_of_row _ _ j _ _ _ k2]
    rcases h with rfl | rfl | rfl | rfl <;> rfl
  have HG := Lib.hid hgot
  have HO := Lib.hid hok
  clear hgot hok hW k1 k2
  go_loopw [15] (fun i wr => ∃ j : Nat, j ≤ 4 ∧ i = .int .i64 j ∧ Below W0.heap.size W0 wr) (fun i _ => 4 - (intOf i).toNat)
  case atStart => exact ⟨0, Nat.zero_le _, rfl, Below.refl _ _⟩
  case round =>
    obtain ⟨j, hj, rfl, hB⟩ := hrel
    by_cases hlt : j < 4
    · have c1 : wr.cell? ⟨w.heap.size, j, none⟩ = _ := (hB.cell (p := ⟨w.heap.size, j, none⟩) (show w.heap.size < W0.heap.size by omega)).trans (HG.out j hlt)
      have c2 : wr.cell? ⟨w.heap.size + 1, j, none⟩ = _ := (hB.cell (p := ⟨w.heap.size + 1, j, none⟩) (show w.heap.size + 1 < W0.heap.size by omega)).trans (HO.out j hlt)
      obtain ⟨s, hs⟩ : ∃ s, s = 2 ^ j := ⟨_, rfl⟩
      have h4 : j = 0 ∨ j = 1 ∨ j = 2 ∨ j = 3 := by omega
      have hs8 : 1 ≤ s ∧ s ≤ 8 := by rw [hs]; rcases h4 with rfl | rfl | rfl | rfl <;> decide
      have hsz : wrap64 (2 ^ j) = (s : Int) := by rw [hs]; rcases h4 with rfl | rfl | rfl | rfl <;> decide +kernel
      rw [← hs] at c1 c2
      have HS := Lib.hid hs
      have HBB := Lib.hid hB
      clear h4 hs hB
      by_cases hgood : there len at0 s
      · obtain ⟨k, hk⟩ := Int.eq_ofNat_of_zero_le hgood.1
        have hkl : k + s ≤ len := hkl_of len s k at0 hgood.2 hk
        have hv : thing bs at0 s = be ((bs.drop k).take s) := by unfold thing; rw [← HL.out, if_pos hgood, hk]; rfl
        rw [hv] at c1
        rw [decide_eq_true hgood] at c2
        obtain ⟨v, hve⟩ : ∃ v, v = be ((bs.drop k).take s) := ⟨_, rfl⟩
        rw [← hve] at c1
        have hll : ((bs.drop k).take s).length = s := take_drop_len bs k s (by rw [← HL.out]; exact hkl)
        have hlb : ∀ c ∈ (bs.drop k).take s, c < 256 := fun c hc => HB.out c (List.mem_of_mem_drop (List.mem_of_mem_take hc))
        have hbg : bg s v = (bs.drop k).take s := by rw [hve]; exact bg_be _ hlb s hll.symm
        have hvb : v < 18446744073709551616 := by rw [hve]; exact be_lt64 _ hlb (by rw [hll]; exact hs8.2)
        subst hk
        have hg3 : decide ((s : Int) ≤ (len : Int) - (k : Int)) = true := hg3_of len s k hkl
        obtain ⟨b0, o0, rfl, _⟩ := HR.out.cells (Nat.lt_of_lt_of_le hs8.1 (Nat.le_trans (Nat.le_add_left _ _) hkl))
        have hconv : ∀ W', Below W0.heap.size W0 W' → (convert 22 9 (.slice (some ⟨b0, o0 + k, none⟩) s (cap - k))).run Try.prog W' = .ok (.string (str ((bs.drop k).take s))) W' := fun W' h =>
          conv_rd W' 22 9 5 Try.underlying22 Try.underlying5 Try.underlying9 _ _ (((HR.out.below hB0).below h).sub k s hkl hs8.1)
        have HCV := Lib.hid hconv
        have HBG := Lib.hid hbg
        have HBD := Lib.hid HBB.out.drew
        clear hgood hv hve hll hlb hbg hconv
        have hg2 : decide ((k : Int) ≤ (len : Int)) = true := decide_eq_true (Int.ofNat_le.2 (Nat.le_trans (Nat.le_add_right _ _) hkl))
        have hg1 : decide ((0 : Int) ≤ (k : Int)) = true := decide_eq_true (Int.natCast_nonneg _)
        clear e8 e16 e32 e64 hat
        go_upto_region 14 with fail
        clear hsz
        have d1 : wr.drew.cell? ⟨w.heap.size, j, none⟩ = some (.int .u64 (v : Int)) := c1
        have d2 : wr.drew.cell? ⟨w.heap.size + 1, j, none⟩ = some (.bool true) := c2
        have d3 := HCV.out _ HBD.out
        obtain ⟨S1, hS1⟩ : ∃ S1, S1 = str ((bs.drop k).take s) := ⟨_, rfl⟩
        rw [← hS1] at d3
        have HS1 := Lib.hid hS1
        have HD1 := Lib.hid d1
        have HD2 := Lib.hid d2
        have HD3 := Lib.hid d3
        have BG := Lib.hid (fun w0 => big_any v s w0 hvb hs8.2)
        clear hS1 c1 c2 d1 d2 d3
        obtain ⟨ks, hks⟩ : ∃ ks, ks = k + s := ⟨_, rfl⟩
        have hw31 : IntKind.i64.wrap ((k : Int) + (s : Int)) = (ks : Int) := by rw [hks]; exact sum_i64 k s (Nat.le_trans hkl (Nat.le_trans hlc hc))
        have hk1 : (0 : Int) ≤ (ks : Int) := Int.natCast_nonneg _
        have hk2 : ks ≤ cap := by rw [hks]; exact Nat.le_trans hkl hlc
        have hk3 : k ≤ ks := by rw [hks]; exact Nat.le_add_right _ _
        have hk4 : ks - k = s := by rw [hks]; exact Nat.add_sub_cancel_left _ _
        have hk5 : ¬ cap = k := fun e => absurd hk2 (by rw [hks]; exact cap_ne e hs8.1)
        clear hks
        refine wp_region_held (S := (fun w' : World => w'.cell? ⟨w.heap.size, j, none⟩ = some (.int .u64 (v : Int)) ∧ w'.cell? ⟨w.heap.size + 1, j, none⟩ = some (.bool true) ∧ (convert 22 9 (.slice (some ⟨b0, o0 + k, none⟩) s (cap - k))).run Try.prog w' = .ok (.string S1) w')) (by kernel_rfl) ?_
        have hS0 : (fun w' : World => w'.cell? ⟨w.heap.size, j, none⟩ = some (.int .u64 (v : Int)) ∧ w'.cell? ⟨w.heap.size + 1, j, none⟩ = some (.bool true) ∧ (convert 22 9 (.slice (some ⟨b0, o0 + k, none⟩) s (cap - k))).run Try.prog w' = .ok (.string S1) w') wr.drew := ⟨HD1.out, HD2.out, HD3.out⟩
        refine wpAnyH_take (i := 0) (oi := { dst := some 81, op := Op.move (Operand.tmp 14), type := 36, pos := "law.go:60", after := #[], guard := none }) (v := ?_) rfl (by kernel_rfl) (by kernel_rfl) (by kernel_rfl) (fun _ _ _ h => h) (Or.inl ⟨by rfl, ?_⟩) hS0 ?_
        rotate_left
        · (intro w1 hSw; obtain ⟨q1, q2, q3⟩ := hSw; go_simp; try with_reducible rfl)
        simp only [Act.put, List.setIfInBounds_toArray, List.set_cons_zero, List.set_cons_succ]
        refine wpAnyH_take (i := 1) (oi := { dst := some 82, op := Op.move (Operand.tmp 15), type := 3, pos := "law.go:60", after := #[], guard := none }) (v := ?_) rfl (by kernel_rfl) (by kernel_rfl) (by kernel_rfl) (fun _ _ _ h => h) (Or.inl ⟨by rfl, ?_⟩) hS0 ?_
        rotate_left
        · (intro w1 hSw; obtain ⟨q1, q2, q3⟩ := hSw; go_simp; try with_reducible rfl)
        simp only [Act.put, List.setIfInBounds_toArray, List.set_cons_zero, List.set_cons_succ]
        refine wpAnyH_take (i := 2) (oi := { dst := some 83, op := Op.indexAddr 36 (Operand.tmp 81) (Operand.tmp 82), type := 0, pos := "law.go:60", after := #[{ on := 0, ground := Ground.data }, { on := 1, ground := Ground.data }], guard := none }) (v := ?_) rfl (by kernel_rfl) (by kernel_rfl) (by kernel_rfl) (fun _ _ _ h => h) (Or.inl ⟨by rfl, ?_⟩) hS0 ?_
        rotate_left
        · (intro w1 hSw; obtain ⟨q1, q2, q3⟩ := hSw; go_simp; try with_reducible rfl)
        simp only [Act.put, List.setIfInBounds_toArray, List.set_cons_zero, List.set_cons_succ]
        refine wpAnyH_take (i := 3) (oi := { dst := some 84, op := Op.load 4 (Operand.tmp 83), type := 4, pos := "law.go:60", after := #[{ on := 2, ground := Ground.data }], guard := none }) (v := ?_) rfl (by kernel_rfl) (by kernel_rfl) (by kernel_rfl) (fun _ _ _ h => h) (Or.inl ⟨by rfl, ?_⟩) hS0 ?_
        rotate_left
        · (intro w1 hSw; obtain ⟨q1, q2, q3⟩ := hSw; go_simp; try with_reducible rfl)
        simp only [Act.put, List.setIfInBounds_toArray, List.set_cons_zero, List.set_cons_succ]
        refine wpAnyH_take (i := 4) (oi := { dst := some 85, op := Op.move (Operand.tmp 17), type := 4, pos := "law.go:60", after := #[], guard := none }) (v := ?_) rfl (by kernel_rfl) (by kernel_rfl) (by kernel_rfl) (fun _ _ _ h => h) (Or.inl ⟨by rfl, ?_⟩) hS0 ?_
        rotate_left
        · (intro w1 hSw; obtain ⟨q1, q2, q3⟩ := hSw; go_simp; try with_reducible rfl)
        simp only [Act.put, List.setIfInBounds_toArray, List.set_cons_zero, List.set_cons_succ]
        refine wpAnyH_take (i := 5) (oi := { dst := some 86, op := Op.binOp BinOp.neq 4 (Operand.tmp 84) (Operand.tmp 85) 4, type := 4, pos := "law.go:60", after := #[{ on := 3, ground := Ground.data }, { on := 4, ground := Ground.data }], guard := none }) (v := ?_) rfl (by kernel_rfl) (by kernel_rfl) (by kernel_rfl) (fun _ _ _ h => h) (Or.inl ⟨by rfl, ?_⟩) hS0 ?_
        rotate_left
        · (intro w1 hSw; obtain ⟨q1, q2, q3⟩ := hSw; go_simp; try with_reducible rfl)
        simp only [Act.put, List.setIfInBounds_toArray, List.set_cons_zero, List.set_cons_succ]
        refine wpAnyH_take (i := 6) (oi := { dst := some 87, op := Op.move (Operand.tmp 86), type := 4, pos := "law.go:60", after := #[{ on := 5, ground := Ground.data }], guard := none }) (v := ?_) rfl (by kernel_rfl) (by kernel_rfl) (by kernel_rfl) (fun _ _ _ h => h) (Or.inl ⟨by rfl, ?_⟩) hS0 ?_
        rotate_left
        · (intro w1 hSw; obtain ⟨q1, q2, q3⟩ := hSw; go_simp; try with_reducible rfl)
        simp only [Act.put, List.setIfInBounds_toArray, List.set_cons_zero, List.set_cons_succ]
        refine wpAnyH_take (i := 7) (oi := { dst := some 88, op := Op.move (Operand.tmp 17), type := 4, pos := "law.go:60", after := #[{ on := 6, ground := Ground.guard }], guard := some (6, false) }) (v := ?_) rfl (by kernel_rfl) (by kernel_rfl) (by kernel_rfl) (fun _ _ _ h => h) (Or.inl ⟨by rfl, ?_⟩) hS0 ?_
        rotate_left
        · (intro w1 hSw; obtain ⟨q1, q2, q3⟩ := hSw; go_simp; try with_reducible rfl)
        simp only [Act.put, List.setIfInBounds_toArray, List.set_cons_zero, List.set_cons_succ]
        refine wpAnyH_take (i := 8) (oi := { dst := some 89, op := Op.unOp UnOp.not 4 (Operand.tmp 88), type := 4, pos := "law.go:60", after := #[{ on := 7, ground := Ground.data }, { on := 6, ground := Ground.guard }], guard := some (6, false) }) (v := ?_) rfl (by kernel_rfl) (by kernel_rfl) (by kernel_rfl) (fun _ _ _ h => h) (Or.inl ⟨by rfl, ?_⟩) hS0 ?_
        rotate_left
        · (intro w1 hSw; obtain ⟨q1, q2, q3⟩ := hSw; go_simp; try with_reducible rfl)
        simp only [Act.put, List.setIfInBounds_toArray, List.set_cons_zero, List.set_cons_succ]
        refine wpAnyH_take (i := 9) (oi := { dst := some 90, op := Op.move (Operand.tmp 89), type := 4, pos := "law.go:60", after := #[{ on := 8, ground := Ground.data }, { on := 6, ground := Ground.chain }, { on := 6, ground := Ground.guard }], guard := some (6, false) }) (v := ?_) rfl (by kernel_rfl) (by kernel_rfl) (by kernel_rfl) (fun _ _ _ h => h) (Or.inl ⟨by rfl, ?_⟩) hS0 ?_
        rotate_left
        · (intro w1 hSw; obtain ⟨q1, q2, q3⟩ := hSw; go_simp; try with_reducible rfl)
        simp only [Act.put, List.setIfInBounds_toArray, List.set_cons_zero, List.set_cons_succ]
        refine wpAnyH_take (i := 10) (oi := { dst := some 91, op := Op.move (Operand.tmp 13), type := 35, pos := "law.go:60", after := #[{ on := 9, ground := Ground.guard }], guard := some (9, true) }) (v := undef) rfl (by kernel_rfl) (by kernel_rfl) (by kernel_rfl) (fun _ _ _ h => h) (Or.inr ⟨by rfl, rfl⟩) hS0 ?_
        simp only [Act.put, List.setIfInBounds_toArray, List.set_cons_zero, List.set_cons_succ]
        refine wpAnyH_take (i := 11) (oi := { dst := some 92, op := Op.move (Operand.tmp 15), type := 3, pos := "law.go:60", after := #[{ on := 9, ground := Ground.guard }], guard := some (9, true) }) (v := undef) rfl (by kernel_rfl) (by kernel_rfl) (by kernel_rfl) (fun _ _ _ h => h) (Or.inr ⟨by rfl, rfl⟩) hS0 ?_
        simp only [Act.put, List.setIfInBounds_toArray, List.set_cons_zero, List.set_cons_succ]
        refine wpAnyH_take (i := 12) (oi := { dst := some 93, op := Op.indexAddr 35 (Operand.tmp 91) (Operand.tmp 92), type := 0, pos := "law.go:60", after := #[{ on := 10, ground := Ground.data }, { on := 11, ground := Ground.data }, { on := 9, ground := Ground.guard }], guard := some (9, true) }) (v := undef) rfl (by kernel_rfl) (by kernel_rfl) (by kernel_rfl) (fun _ _ _ h => h) (Or.inr ⟨by rfl, rfl⟩) hS0 ?_
        simp only [Act.put, List.setIfInBounds_toArray, List.set_cons_zero, List.set_cons_succ]
        refine wpAnyH_take (i := 13) (oi := { dst := some 94, op := Op.load 32 (Operand.tmp 93), type := 32, pos := "law.go:60", after := #[{ on := 12, ground := Ground.data }, { on := 9, ground := Ground.guard }], guard := some (9, true) }) (v := undef) rfl (by kernel_rfl) (by kernel_rfl) (by kernel_rfl) (fun _ _ _ h => h) (Or.inr ⟨by rfl, rfl⟩) hS0 ?_
        simp only [Act.put, List.setIfInBounds_toArray, List.set_cons_zero, List.set_cons_succ]
        refine wpAnyH_take (i := 14) (oi := { dst := some 95, op := Op.binOp BinOp.neq 32 (Operand.tmp 94) (Operand.const (Value.int IntKind.u64 0)) 32, type := 4, pos := "law.go:60", after := #[{ on := 13, ground := Ground.data }, { on := 9, ground := Ground.guard }], guard := some (9, true) }) (v := undef) rfl (by kernel_rfl) (by kernel_rfl) (by kernel_rfl) (fun _ _ _ h => h) (Or.inr ⟨by rfl, rfl⟩) hS0 ?_
        simp only [Act.put, List.setIfInBounds_toArray, List.set_cons_zero, List.set_cons_succ]
        refine wpAnyH_take (i := 15) (oi := { dst := some 96, op := Op.pick (Operand.tmp 90) (Operand.tmp 95) (Operand.const (Value.bool false)), type := 4, pos := "law.go:60", after := #[{ on := 9, ground := Ground.data }, { on := 14, ground := Ground.data }, { on := 6, ground := Ground.guard }], guard := some (6, false) }) (v := ?_) rfl (by kernel_rfl) (by kernel_rfl) (by kernel_rfl) (fun _ _ _ h => h) (Or.inl ⟨by rfl, ?_⟩) hS0 ?_
        rotate_left
        · (intro w1 hSw; obtain ⟨q1, q2, q3⟩ := hSw; go_simp; try with_reducible rfl)
        simp only [Act.put, List.setIfInBounds_toArray, List.set_cons_zero, List.set_cons_succ]
        refine wpAnyH_take (i := 16) (oi := { dst := some 97, op := Op.pick (Operand.tmp 87) (Operand.const (Value.bool true)) (Operand.tmp 96), type := 4, pos := "law.go:60", after := #[{ on := 6, ground := Ground.data }, { on := 15, ground := Ground.data }], guard := none }) (v := ?_) rfl (by kernel_rfl) (by kernel_rfl) (by kernel_rfl) (fun _ _ _ h => h) (Or.inl ⟨by rfl, ?_⟩) hS0 ?_
        rotate_left
        · (intro w1 hSw; obtain ⟨q1, q2, q3⟩ := hSw; go_simp; try with_reducible rfl)
        simp only [Act.put, List.setIfInBounds_toArray, List.set_cons_zero, List.set_cons_succ]
        refine wpAnyH_take (i := 17) (oi := { dst := some 98, op := Op.move (Operand.tmp 97), type := 4, pos := "law.go:60", after := #[{ on := 16, ground := Ground.data }, { on := 9, ground := Ground.chain }], guard := none }) (v := ?_) rfl (by kernel_rfl) (by kernel_rfl) (by kernel_rfl) (fun _ _ _ h => h) (Or.inl ⟨by rfl, ?_⟩) hS0 ?_
        rotate_left
        · (intro w1 hSw; obtain ⟨q1, q2, q3⟩ := hSw; go_simp; try with_reducible rfl)
        simp only [Act.put, List.setIfInBounds_toArray, List.set_cons_zero, List.set_cons_succ]
        refine wpAnyH_take (i := 18) (oi := { dst := some 99, op := Op.move (Operand.tmp 17), type := 4, pos := "law.go:60", after := #[{ on := 17, ground := Ground.guard }], guard := some (17, false) }) (v := ?_) rfl (by kernel_rfl) (by kernel_rfl) (by kernel_rfl) (fun _ _ _ h => h) (Or.inl ⟨by rfl, ?_⟩) hS0 ?_
        rotate_left
        · (intro w1 hSw; obtain ⟨q1, q2, q3⟩ := hSw; go_simp; try with_reducible rfl)
        simp only [Act.put, List.setIfInBounds_toArray, List.set_cons_zero, List.set_cons_succ]
        refine wpAnyH_take (i := 19) (oi := { dst := some 100, op := Op.move (Operand.tmp 99), type := 4, pos := "law.go:60", after := #[{ on := 18, ground := Ground.data }, { on := 17, ground := Ground.chain }, { on := 17, ground := Ground.guard }], guard := some (17, false) }) (v := ?_) rfl (by kernel_rfl) (by kernel_rfl) (by kernel_rfl) (fun _ _ _ h => h) (Or.inl ⟨by rfl, ?_⟩) hS0 ?_
        rotate_left
        · (intro w1 hSw; obtain ⟨q1, q2, q3⟩ := hSw; go_simp; try with_reducible rfl)
        simp only [Act.put, List.setIfInBounds_toArray, List.set_cons_zero, List.set_cons_succ]
        refine wpAnyH_take (i := 20) (oi := { dst := some 101, op := Op.move (Operand.tmp 13), type := 35, pos := "law.go:60", after := #[{ on := 19, ground := Ground.guard }], guard := some (19, true) }) (v := ?_) rfl (by kernel_rfl) (by kernel_rfl) (by kernel_rfl) (fun _ _ _ h => h) (Or.inl ⟨by rfl, ?_⟩) hS0 ?_
        rotate_left
        · (intro w1 hSw; obtain ⟨q1, q2, q3⟩ := hSw; go_simp; try with_reducible rfl)
        simp only [Act.put, List.setIfInBounds_toArray, List.set_cons_zero, List.set_cons_succ]
        refine wpAnyH_take (i := 21) (oi := { dst := some 102, op := Op.move (Operand.tmp 15), type := 3, pos := "law.go:60", after := #[{ on := 19, ground := Ground.guard }], guard := some (19, true) }) (v := ?_) rfl (by kernel_rfl) (by kernel_rfl) (by kernel_rfl) (fun _ _ _ h => h) (Or.inl ⟨by rfl, ?_⟩) hS0 ?_
        rotate_left
        · (intro w1 hSw; obtain ⟨q1, q2, q3⟩ := hSw; go_simp; try with_reducible rfl)
        simp only [Act.put, List.setIfInBounds_toArray, List.set_cons_zero, List.set_cons_succ]
        refine wpAnyH_take (i := 22) (oi := { dst := some 103, op := Op.indexAddr 35 (Operand.tmp 101) (Operand.tmp 102), type := 0, pos := "law.go:60", after := #[{ on := 20, ground := Ground.data }, { on := 21, ground := Ground.data }, { on := 19, ground := Ground.guard }], guard := some (19, true) }) (v := ?_) rfl (by kernel_rfl) (by kernel_rfl) (by kernel_rfl) (fun _ _ _ h => h) (Or.inl ⟨by rfl, ?_⟩) hS0 ?_
        rotate_left
        · (intro w1 hSw; obtain ⟨q1, q2, q3⟩ := hSw; go_simp; try with_reducible rfl)
        simp only [Act.put, List.setIfInBounds_toArray, List.set_cons_zero, List.set_cons_succ]
        refine wpAnyH_take (i := 23) (oi := { dst := some 104, op := Op.load 32 (Operand.tmp 103), type := 32, pos := "law.go:60", after := #[{ on := 22, ground := Ground.data }, { on := 19, ground := Ground.guard }], guard := some (19, true) }) (v := ?_) rfl (by kernel_rfl) (by kernel_rfl) (by kernel_rfl) (fun _ _ _ h => h) (Or.inl ⟨by rfl, ?_⟩) hS0 ?_
        rotate_left
        · (intro w1 hSw; obtain ⟨q1, q2, q3⟩ := hSw; go_simp; try with_reducible rfl)
        simp only [Act.put, List.setIfInBounds_toArray, List.set_cons_zero, List.set_cons_succ]
        refine wpAnyH_take (i := 24) (oi := { dst := some 105, op := Op.move (Operand.tmp 16), type := 3, pos := "law.go:60", after := #[{ on := 19, ground := Ground.guard }], guard := some (19, true) }) (v := ?_) rfl (by kernel_rfl) (by kernel_rfl) (by kernel_rfl) (fun _ _ _ h => h) (Or.inl ⟨by rfl, ?_⟩) hS0 ?_
        rotate_left
        · (intro w1 hSw; obtain ⟨q1, q2, q3⟩ := hSw; go_simp; try with_reducible rfl)
        simp only [Act.put, List.setIfInBounds_toArray, List.set_cons_zero, List.set_cons_succ]
        refine wpAnyH_take (i := 27) (oi := { dst := some 108, op := Op.move (Operand.tmp 0), type := 22, pos := "law.go:60", after := #[{ on := 19, ground := Ground.guard }], guard := some (19, true) }) (v := ?_) rfl (by kernel_rfl) (by kernel_rfl) (by kernel_rfl) (fun _ _ _ h => h) (Or.inl ⟨by rfl, ?_⟩) hS0 ?_
        rotate_left
        · (intro w1 hSw; obtain ⟨q1, q2, q3⟩ := hSw; go_simp; try with_reducible rfl)
        simp only [Act.put, List.setIfInBounds_toArray, List.set_cons_zero, List.set_cons_succ]
        refine wpAnyH_take (i := 28) (oi := { dst := some 109, op := Op.move (Operand.tmp 1), type := 3, pos := "law.go:60", after := #[{ on := 19, ground := Ground.guard }], guard := some (19, true) }) (v := ?_) rfl (by kernel_rfl) (by kernel_rfl) (by kernel_rfl) (fun _ _ _ h => h) (Or.inl ⟨by rfl, ?_⟩) hS0 ?_
        rotate_left
        · (intro w1 hSw; obtain ⟨q1, q2, q3⟩ := hSw; go_simp; try with_reducible rfl)
        simp only [Act.put, List.setIfInBounds_toArray, List.set_cons_zero, List.set_cons_succ]
        refine wpAnyH_take (i := 29) (oi := { dst := some 110, op := Op.move (Operand.tmp 1), type := 3, pos := "law.go:60", after := #[{ on := 19, ground := Ground.guard }], guard := some (19, true) }) (v := ?_) rfl (by kernel_rfl) (by kernel_rfl) (by kernel_rfl) (fun _ _ _ h => h) (Or.inl ⟨by rfl, ?_⟩) hS0 ?_
        rotate_left
        · (intro w1 hSw; obtain ⟨q1, q2, q3⟩ := hSw; go_simp; try with_reducible rfl)
        simp only [Act.put, List.setIfInBounds_toArray, List.set_cons_zero, List.set_cons_succ]
        refine wpAnyH_take (i := 30) (oi := { dst := some 111, op := Op.move (Operand.tmp 16), type := 3, pos := "law.go:60", after := #[{ on := 19, ground := Ground.guard }], guard := some (19, true) }) (v := ?_) rfl (by kernel_rfl) (by kernel_rfl) (by kernel_rfl) (fun _ _ _ h => h) (Or.inl ⟨by rfl, ?_⟩) hS0 ?_
        rotate_left
        · (intro w1 hSw; obtain ⟨q1, q2, q3⟩ := hSw; go_simp; try with_reducible rfl)
        simp only [Act.put, List.setIfInBounds_toArray, List.set_cons_zero, List.set_cons_succ]
        refine wpAnyH_take (i := 31) (oi := { dst := some 112, op := Op.binOp BinOp.add 3 (Operand.tmp 110) (Operand.tmp 111) 3, type := 3, pos := "law.go:60", after := #[{ on := 29, ground := Ground.data }, { on := 30, ground := Ground.data }, { on := 19, ground := Ground.guard }], guard := some (19, true) }) (v := .int .i64 (ks : Int)) rfl (by kernel_rfl) (by kernel_rfl) (by kernel_rfl) (fun _ _ _ h => h) (Or.inl ⟨by rfl, ?_⟩) hS0 ?_
        · (intro w1 hSw; obtain ⟨q1, q2, q3⟩ := hSw; go_simp; try with_reducible rfl)
        simp only [Act.put, List.setIfInBounds_toArray, List.set_cons_zero, List.set_cons_succ]
        refine wpAnyH_take (i := 32) (oi := { dst := some 113, op := Op.slice 22 (Operand.tmp 108) (some (Operand.tmp 109)) (some (Operand.tmp 112)) none, type := 22, pos := "law.go:60", after := #[{ on := 27, ground := Ground.data }, { on := 28, ground := Ground.data }, { on := 31, ground := Ground.data }, { on := 19, ground := Ground.guard }], guard := some (19, true) }) (v := .slice (some ⟨b0, o0 + k, none⟩) s (cap - k)) rfl (by kernel_rfl) (by kernel_rfl) (by kernel_rfl) (fun _ _ _ h => h) (Or.inl ⟨by rfl, ?_⟩) hS0 ?_
        · (intro w1 hSw; obtain ⟨q1, q2, q3⟩ := hSw; go_simp; try with_reducible rfl)
        simp only [Act.put, List.setIfInBounds_toArray, List.set_cons_zero, List.set_cons_succ]
        refine wpAnyH_take (i := 33) (oi := { dst := some 114, op := Op.convert 22 9 (Operand.tmp 113), type := 9, pos := "law.go:60", after := #[{ on := 32, ground := Ground.data }, { on := 19, ground := Ground.guard }], guard := some (19, true) }) (v := .string S1) rfl (by kernel_rfl) (by kernel_rfl) (by kernel_rfl) (fun _ _ _ h => h) (Or.inl ⟨by rfl, ?_⟩) hS0 ?_
        · (intro w1 hSw; obtain ⟨q1, q2, q3⟩ := hSw; go_simp; try with_reducible rfl)
        simp only [Act.put, List.setIfInBounds_toArray, List.set_cons_zero, List.set_cons_succ]
        refine wpAnyH_ready (rs := [25]) (by kernel_rfl) (by simp) ?_
        refine AllReadyH.cons (o := { dst := some 106, op := Op.call { callee := Callee.value (Operand.func 13), args := #[Operand.tmp 104, Operand.tmp 105], argTypes := #[32, 3] }, type := 22, pos := "law.go:60", after := #[{ on := 23, ground := Ground.data }, { on := 24, ground := Ground.data }, { on := 19, ground := Ground.chain }, { on := 19, ground := Ground.guard }], guard := some (19, true) }) rfl (fun K hK => ?_) AllReadyH.nil
        go_simp
        go_wp2_with fail
        refine (BG.out _).mono ?_
        rintro e w1 ⟨z, rfl, hown, hb1⟩
        have hb2 := HBD.out.trans (hb1.mono HBD.out.size)
        rw [HBG.out] at hown
        have hc1 := conv_rd w1 22 9 5 Try.underlying22 Try.underlying5 Try.underlying9 z _ (Rd.own hown)
        rw [← HS1.out] at hc1
        have HE1 := Lib.hid (show w1.cell? ⟨w.heap.size, j, none⟩ = some (.int .u64 (v : Int)) from (hb1.cell (p := ⟨w.heap.size, j, none⟩) (Nat.lt_of_lt_of_le (show w.heap.size < W0.heap.size by omega) HBD.out.size)).trans HD1.out)
        have HE2 := Lib.hid (show w1.cell? ⟨w.heap.size + 1, j, none⟩ = some (.bool true) from (hb1.cell (p := ⟨w.heap.size + 1, j, none⟩) (Nat.lt_of_lt_of_le (show w.heap.size + 1 < W0.heap.size by omega) HBD.out.size)).trans HD2.out)
        have HE3 := Lib.hid (show (convert 22 9 (.slice (some ⟨b0, o0 + k, none⟩) s (cap - k))).run Try.prog w1 = .ok (.string S1) w1 from by rw [HS1.out]; exact HCV.out _ hb2)
        have HC1 := Lib.hid hc1
        have HB2 := Lib.hid hb2
        clear hown hb1 hc1 hb2 hS0
        go_wp2_with fail
        refine hK.out _ _ ⟨HE1.out, HE2.out, HE3.out⟩ (fun hHeld => ?_)
        clear hK K
        try simp only [Act.put, List.setIfInBounds_toArray, List.set_cons_zero, List.set_cons_succ]
        refine wpAnyH_ready (rs := [26]) (by kernel_rfl) (by simp) ?_
        refine AllReadyH.cons (o := { dst := some 107, op := Op.convert 22 9 (Operand.tmp 106), type := 9, pos := "law.go:60", after := #[{ on := 25, ground := Ground.data }, { on := 19, ground := Ground.guard }], guard := some (19, true) }) rfl (fun K hK => ?_) AllReadyH.nil
        have hc1 := HC1.out
        go_simp
        clear hc1
        refine hK.out _ _ hHeld (fun _ => ?_)
        clear hK K
        try simp only [Act.put, List.setIfInBounds_toArray, List.set_cons_zero, List.set_cons_succ]
        refine wpAnyH_take (i := 34) (oi := { dst := some 115, op := Op.binOp BinOp.neq 9 (Operand.tmp 107) (Operand.tmp 114) 9, type := 4, pos := "law.go:60", after := #[{ on := 26, ground := Ground.data }, { on := 33, ground := Ground.data }, { on := 19, ground := Ground.guard }], guard := some (19, true) }) (v := ?_) rfl (by kernel_rfl) (by kernel_rfl) (by kernel_rfl) (fun _ _ _ h => h) (Or.inl ⟨by rfl, ?_⟩) hHeld ?_
        rotate_left
        · (intro w1 hSw; obtain ⟨q1, q2, q3⟩ := hSw; go_simp; try with_reducible rfl)
        simp only [Act.put, List.setIfInBounds_toArray, List.set_cons_zero, List.set_cons_succ]
        refine wpAnyH_take (i := 35) (oi := { dst := some 116, op := Op.pick (Operand.tmp 100) (Operand.tmp 115) (Operand.const (Value.bool false)), type := 4, pos := "law.go:60", after := #[{ on := 19, ground := Ground.data }, { on := 34, ground := Ground.data }, { on := 17, ground := Ground.guard }], guard := some (17, false) }) (v := ?_) rfl (by kernel_rfl) (by kernel_rfl) (by kernel_rfl) (fun _ _ _ h => h) (Or.inl ⟨by rfl, ?_⟩) hHeld ?_
        rotate_left
        · (intro w1 hSw; obtain ⟨q1, q2, q3⟩ := hSw; go_simp; try with_reducible rfl)
        simp only [Act.put, List.setIfInBounds_toArray, List.set_cons_zero, List.set_cons_succ]
        refine wpAnyH_take (i := 36) (oi := { dst := some 117, op := Op.pick (Operand.tmp 98) (Operand.const (Value.bool true)) (Operand.tmp 116), type := 4, pos := "law.go:60", after := #[{ on := 17, ground := Ground.data }, { on := 35, ground := Ground.data }], guard := none }) (v := ?_) rfl (by kernel_rfl) (by kernel_rfl) (by kernel_rfl) (fun _ _ _ h => h) (Or.inl ⟨by rfl, ?_⟩) hHeld ?_
        rotate_left
        · (intro w1 hSw; obtain ⟨q1, q2, q3⟩ := hSw; go_simp; try with_reducible rfl)
        simp only [Act.put, List.setIfInBounds_toArray, List.set_cons_zero, List.set_cons_succ]
        refine wpAnyH_done (by kernel_rfl) ?_ _
        clear hHeld
        go_wp2_with fail
        go_roundw
        case rel => exact ⟨j + 1, Nat.succ_le_of_lt hlt, by go_num, HB2.out⟩
        case measure => simp [intOf]; omega
      · have ht0 : thing bs at0 s = 0 := by unfold thing; rw [← HL.out, if_neg hgood]
        rw [ht0] at c1
        rw [decide_eq_false hgood] at c2
        clear ht0
        by_cases hn : at0 < 0
        · have hnn : decide ((0 : Int) ≤ at0) = false := decide_eq_false (by omega)
          clear hgood
          go_wp2
          go_quiet (fail)
          go_wp2
          go_roundw
          case rel => exact ⟨j + 1, by omega, by go_num, below_drewN HBB.out _⟩
          case measure => simp [intOf]; omega
        · by_cases hn2 : (len : Int) < at0
          · clear hgood
            go_wp2
            go_quiet (fail)
            go_wp2
            go_roundw
            case rel => exact ⟨j + 1, by omega, by go_num, below_drewN HBB.out _⟩
            case measure => simp [intOf]; omega
          · have hn3 := not_there len s at0 hgood hn
            clear hgood
            go_wp2
            go_quiet (fail)
            go_wp2
            go_roundw
            case rel => exact ⟨j + 1, by omega, by go_num, below_drewN HBB.out _⟩
            case measure => simp [intOf]; omega
    · obtain rfl : j = 4 := by omega
      go_wp2_with fail
      refine (awake_any _).mono ?_
      rintro e w2 ⟨rfl, hb2⟩
      go_wp2
      go_ret
      exact ⟨rfl, hB0.trans ((hB.trans (hb2.mono hB.size)).mono (by omega))⟩

set_option maxHeartbeats 400000 in
/-- Of any bytes and place: true, and nothing that was there is changed. -/
theorem gets_walk (va : Value) (bs : List Nat) (at0 : Int) (w : World) (hr : Rd w va (nus .u8 bs)) (hb : ∀ c ∈ bs, c < 256) (hat : -9223372036854775808 ≤ at0 ∧ at0 ≤ 9223372036854775807) :
    Calls Try.prog 3 #[va, .int .i64 at0] w fun e w' => e = .returned (.bool true) ∧ Below w.heap.size w w' := by
  by_cases h : bs.length ≤ 200
  · exact gets_walk_short va bs at0 w hr hb hat h
  · obtain ⟨a, cap, rfl, hlc, hc⟩ := rd_shape hr
    exact gets_walk_long a bs.length cap at0 w (by omega) (by omega)
end Go.Proofs.Ytacjkcmiiajabaa
