/- Texts that the walks of this seat lean on, put together. -/
import Derived.LoopTactic
import Derived.Handy
import Derived.Test.YtblkpnjmmdbgnaaTk
import Derived.Test.YtblkpnjmmdbgnaaM35
import Derived.Test.YtblkpnjmmdbgnaaM37
import Derived.Test.YtblkpnjmmdbgnaaM39
import Derived.Test.YtblkpnjmmdbgnaaM40
import Derived.Test.YtblkpnjmmdbgnaaM43
namespace Go.Proofs.Ytblkpnjmmdbgnaa
open Go.RowKit Go.Lib
def gdB (c : Cf) (k : Fl) (s : Int) : Bool := vK k && (decide (s ≥ 0) && decide (s < c.st))
def paC (c : Cf) (k : Fl) (s : Int) : Array Value := if gdB c k s then #[.int .i64 s, .int .i64 ((plN c k s.toNat : Nat) : Int)] else #[.int .i64 0, .int .i64 0]
theorem gdB_yes {c : Cf} {k : Fl} {s : Int} (h : gdB c k s = true) : vK k = true ∧ 0 ≤ s ∧ s < c.st := by
  unfold gdB at h
  simp only [Bool.and_eq_true, decide_eq_true_iff] at h
  exact ⟨h.1, h.2.1, h.2.2⟩
theorem place_all (c : Cf) (hc : c.Fit) (hok : okC c = true) (k : Fl) (hk : k.Fit) (s : Int) (g : Nat) (w : World) (hF : Blk w g 73 (famC c)) :
    Calls Try.prog 12 #[.pointer (some ⟨g, 0, none⟩), .agg k.cs, .int .i64 s] w fun e w' => e = .returned (.tuple #[.agg (paC c k s), .bool (gdB c k s)]) ∧ Below w.heap.size w w' := by
  cases hg : gdB c k s with
  | true =>
    obtain ⟨h1, h2, h3⟩ := gdB_yes hg
    have e : paC c k s = #[.int .i64 s, .int .i64 ((plN c k s.toNat : Nat) : Int)] := by unfold paC; rw [hg, if_pos rfl]
    rw [e]
    exact place_yes c hc hok k hk h1 s ⟨h2, h3⟩ g w hF
  | false =>
    have e : paC c k s = #[.int .i64 0, .int .i64 0] := by unfold paC; rw [hg]; rfl
    rw [e]
    cases hv : vK k with
    | false => exact place_no c k hk hv s g w hF
    | true =>
      by_cases h0 : s < 0
      · exact place_low c k hk hv s h0 g w hF
      · refine place_high c k hk hv s ⟨h0, ?_⟩ g w hF
        unfold gdB at hg
        rw [hv, Bool.true_and, decide_eq_true (show s ≥ 0 by omega), Bool.true_and, decide_eq_false_iff_not] at hg
        omega
theorem rplace_all (c : Cf) (hc : c.Fit) (hok : okC c = true) (k : Fl) (hk : k.Fit) (s : Int) (hg : gdB c k s = true) (w : World) :
    Calls Try.prog 14 #[.agg c.cs, .agg k.cs, .int .i64 s] w fun e w' => e = .returned (.agg (paC c k s)) ∧ Below w.heap.size w w' := by
  obtain ⟨h1, h2, h3⟩ := gdB_yes hg
  have := okC_st hok
  have e : paC c k s = #[.int .i64 s, .int .i64 ((plN c k s.toNat : Nat) : Int)] := by unfold paC; rw [hg, if_pos rfl]
  rw [e]
  obtain ⟨n, rfl⟩ : ∃ n : Nat, s = (n : Int) := ⟨s.toNat, by omega⟩
  rw [Int.toNat_natCast]
  exact rplace_any c hc hok n (by omega) k hk w
theorem paC_eq (c : Cf) (hok : okC c = true) (k : Fl) (s : Int) (hg : gdB c k s = true) (w : World) : (Op.equalIn Op.maxDepth 41 (.agg (paC c k s)) (.agg (paC c k s))).run Try.prog w = .ok true w := by
  obtain ⟨h1, h2, h3⟩ := gdB_yes hg
  have := okC_st hok
  have e : paC c k s = #[.int .i64 s, .int .i64 ((plN c k s.toNat : Nat) : Int)] := by unfold paC; rw [hg, if_pos rfl]
  rw [e]
  obtain ⟨n, rfl⟩ : ∃ n : Nat, s = (n : Int) := ⟨s.toNat, by omega⟩
  rw [Int.toNat_natCast]
  exact eq_place n _ (by omega) (plN_lt c k n hok) w
theorem paC_size (c : Cf) (k : Fl) (s : Int) : (paC c k s).size = 2 := by unfold paC; split <;> rfl
theorem paC_one (c : Cf) (k : Fl) (s : Int) : (paC c k s).all (·.oneCell') = true := by unfold paC; split <;> simp [Value.oneCell']
theorem dgN_no {c : Cf} {k : Fl} (h : vK k = false) : dgN c k = 0 := by unfold dgN; rw [h]; rfl
theorem digest_all (c : Cf) (hc : c.Fit) (hok : okC c = true) (k : Fl) (hk : k.Fit) (g : Nat) (w : World) (hF : Blk w g 73 (famC c)) :
    Calls Try.prog 15 #[.pointer (some ⟨g, 0, none⟩), .agg k.cs] w fun e w' => e = .returned (.int .u16 ((dgN c k : Nat) : Int)) ∧ Below w.heap.size w w' := by
  cases hv : vK k with
  | true => exact digest_yes c hc hok k hk hv g w hF
  | false => rw [dgN_no hv]; exact digest_no k hk hv g w
theorem rdigest_all (c : Cf) (hc : c.Fit) (hok : okC c = true) (k : Fl) (hk : k.Fit) (w : World) :
    Calls Try.prog 16 #[.agg c.cs, .agg k.cs] w fun e w' => e = .returned (.int .u16 ((dgN c k : Nat) : Int)) ∧ Below w.heap.size w w' := by
  cases hv : vK k with
  | true => exact rdigest_yes c hc hok k hk hv w
  | false => rw [dgN_no hv]; exact rdigest_no c hc k hk hv w
theorem btN_no {c : Cf} {k : Fl} (h : vK k = false) : btN c k = [] := by unfold btN; rw [h]; rfl
theorem btN_yes {c : Cf} {k : Fl} (h : vK k = true) : btN c k = btL c k c.hs.toNat := by unfold btN; rw [h, if_pos rfl]
theorem btN_len (c : Cf) (k : Fl) (hok : okC c = true) : (btN c k).length ≤ 1000000 := by
  have := okC_hs hok
  cases hv : vK k with
  | true => rw [btN_yes hv, btL_len]; omega
  | false => rw [btN_no hv]; exact Nat.zero_le _
theorem bits_all (c : Cf) (hc : c.Fit) (hok : okC c = true) (k : Fl) (hk : k.Fit) (g : Nat) (w : World) (hF : Blk w g 73 (famC c)) :
    Calls Try.prog 18 #[.pointer (some ⟨g, 0, none⟩), .agg k.cs] w fun e w' => ∃ x, e = .returned x ∧ Rd w' x (nus .i64 (btN c k)) ∧ Below w.heap.size w w' := by
  cases hv : vK k with
  | true => rw [btN_yes hv]; exact bits_yes c hc hok k hk hv g w hF
  | false => rw [btN_no hv]; exact (bits_no k hk hv g w).mono fun e w' h => ⟨_, h.1, rd_nil _ _, h.2⟩
theorem rbits_all (c : Cf) (hc : c.Fit) (hok : okC c = true) (k : Fl) (hk : k.Fit) (w : World) :
    Calls Try.prog 19 #[.agg c.cs, .agg k.cs] w fun e w' => ∃ x, e = .returned x ∧ Rd w' x (nus .i64 (btN c k)) ∧ Below w.heap.size w w' := by
  cases hv : vK k with
  | true => rw [btN_yes hv]; exact (rbits_yes c hc hok k hk hv w).mono fun e w' h => ⟨h.1.choose, h.1.choose_spec.1, h.1.choose_spec.2, h.2⟩
  | false => rw [btN_no hv]; exact (rbits_no c hc hok k hk hv w).mono fun e w' h => ⟨_, h.1, rd_nil _ _, h.2⟩
theorem slN_no {c : Cf} {k : Fl} {n : Int} (h : vK k = false) : slN c k n = 0 := by unfold slN; rw [h]; rfl
theorem slN_low {c : Cf} {k : Fl} {n : Int} (h : n < 1) : slN c k n = 0 := by unfold slN; rw [decide_eq_false (by omega), Bool.and_false]; rfl
theorem slot_all (c : Cf) (hc : c.Fit) (k : Fl) (hk : k.Fit) (g : Nat) (n : Int) (hn : n ≤ 9223372036854775807) (w : World) (hF : Blk w g 73 (famC c)) :
    Calls Try.prog 20 #[.pointer (some ⟨g, 0, none⟩), .agg k.cs, .int .i64 n] w fun e w' => e = .returned (.int .i64 ((slN c k n : Nat) : Int)) ∧ Below w.heap.size w w' := by
  cases hv : vK k with
  | false => rw [slN_no hv]; exact slot_no k hk hv g n w
  | true =>
    by_cases h : n < 1
    · rw [slN_low h]; exact slot_low k hk hv g n h w
    · exact slot_yes c hc k hk hv g n (by omega) hn w hF
theorem rslot_all (c : Cf) (hc : c.Fit) (k : Fl) (hk : k.Fit) (n : Int) (hn : n ≤ 9223372036854775807) (w : World) :
    Calls Try.prog 21 #[.agg c.cs, .agg k.cs, .int .i64 n] w fun e w' => e = .returned (.int .i64 ((slN c k n : Nat) : Int)) ∧ Below w.heap.size w w' := by
  by_cases h : n < 1
  · rw [slN_low h]; exact rslot_low c hc k hk n h w
  · cases hv : vK k with
    | false => rw [slN_no hv]; exact rslot_no c hc k hk hv n (by omega) w
    | true => exact rslot_yes c hc k hk hv n (by omega) hn w
end Go.Proofs.Ytblkpnjmmdbgnaa
