/- Texts that the walks of this seat lean on, put together. -/
import Derived.LoopTactic
import Derived.Handy
import Derived.Test.YtblkpnjmmdbgnaaTk
import Derived.Test.YtblkpnjmmdbgnaaM31
import Derived.Test.YtblkpnjmmdbgnaaM35
import Derived.Test.YtblkpnjmmdbgnaaM42
namespace Go.Proofs.Ytblkpnjmmdbgnaa
open Go.RowKit Go.Lib
theorem row_blk {w : World} {base : Nat} {e : TypeId} {k : Nat} {v : Value} {n : Nat} {xs : List Value} (h : w.ownsRow base e k v n xs) (hn : 0 < n) : ∃ (g cap : Nat) (cur : Array Value), v = .slice (some ⟨g, 0, none⟩) n cap ∧ Blk w g e cur ∧ ∀ (j : Nat) (u : Value), xs[j]? = some u → cur[j]? = some u := by
  have h' := h
  rcases h.2 with ⟨rfl, h0⟩ | ⟨g, cap, cur, rfl, hbg, hg, h3⟩
  · omega
  · refine ⟨g, cap, cur, rfl, hg, fun j u hj => ?_⟩
    have q := h'.cells (g := g) rfl j u hj
    rw [Addr.add_lit, Nat.zero_add] at q
    rw [← q]
    exact ((show Blk w g e cur from hg).cell j).symm
theorem plL_take (c : Cf) (k : Fl) (hv : vK k = true) (n : Nat) (hn : n ≤ c.st.toNat) (i : Nat) (hi : i < n) : ((plL c k).take n).getD i (0, 0) = (i, plN c k i) := by
  rw [List.getD_eq_getElem?_getD, List.getElem?_take_of_lt hi, ← List.getD_eq_getElem?_getD, plL_get c k hv i (by omega)]
theorem all_n (c : Cf) (hc : c.Fit) (hok : okC c = true) (k : Fl) (hk : k.Fit) (hv : vK k = true) (g : Nat) (most : Int) (n : Nat) (h1 : 1 ≤ n) (h2 : n ≤ c.st.toNat) (hcut : cutP (plL c k) most = (plL c k).take n) (w : World) (hF : Blk w g 73 (famC c)) :
    Calls Try.prog 22 #[.pointer (some ⟨g, 0, none⟩), .agg k.cs, .int .i64 most] w fun e w' => ∃ gX cp cur, e = .returned (.slice (some ⟨gX, 0, none⟩) n cp) ∧ Blk w' gX 41 cur ∧ (∀ i, i < n → cur[i * 2]? = some (.int .i64 (i : Int)) ∧ cur[i * 2 + 1]? = some (.int .i64 ((plN c k i : Nat) : Int))) ∧ Below w.heap.size w w' := by
  refine (all_any c hc hok k hk g most w hF).mono ?_
  rintro e w' ⟨x, rfl, hx, hy⟩
  rw [hcut] at hx
  have hl : ((plL c k).take n).length = n := by rw [List.length_take, plL_len c k hv]; omega
  rw [hl] at hx
  obtain ⟨gX, cap, cur, rfl, hb, hcl⟩ := row_blk hx (by omega)
  refine ⟨gX, cap, cur, rfl, hb, fun i hi => ?_, hy⟩
  obtain ⟨u0, u1⟩ := pcells_get ((plL c k).take n) i (by rw [hl]; exact hi)
  rw [plL_take c k hv n h2 i hi] at u0 u1
  exact ⟨hcl _ _ u0, hcl _ _ u1⟩
theorem cut_all (c : Cf) (k : Fl) (hv : vK k = true) : cutP (plL c k) (-1) = (plL c k).take c.st.toNat := by
  unfold cutP
  rw [if_neg (by omega), List.take_of_length_le (by rw [plL_len c k hv]; exact Nat.le_refl _)]
theorem cut_one (c : Cf) (k : Fl) (hv : vK k = true) (h : 1 ≤ c.st.toNat) : cutP (plL c k) 1 = (plL c k).take 1 := by
  unfold cutP
  rw [if_pos ⟨by decide, by rw [plL_len c k hv]; omega⟩, show (1 : Int).toNat = 1 from rfl]
theorem cut_no (c : Cf) (k : Fl) (hv : vK k = false) (most : Int) : cutP (plL c k) most = [] := by
  rw [plL_no hv]
  unfold cutP
  split <;> simp
theorem all_none (c : Cf) (hc : c.Fit) (hok : okC c = true) (k : Fl) (hk : k.Fit) (hv : vK k = false) (g : Nat) (most : Int) (w : World) (hF : Blk w g 73 (famC c)) :
    Calls Try.prog 22 #[.pointer (some ⟨g, 0, none⟩), .agg k.cs, .int .i64 most] w fun e w' => ∃ a cp, e = .returned (.slice a 0 cp) ∧ Below w.heap.size w w' := by
  refine (all_any c hc hok k hk g most w hF).mono ?_
  rintro e w' ⟨x, rfl, hx, hy⟩
  rw [cut_no c k hv] at hx
  obtain ⟨a, cp, rfl⟩ := row_shape hx
  exact ⟨a, cp, rfl, hy⟩
theorem load_at (w : World) (g i p : Nat) (cur : Array Value) (h : Blk w g 41 cur) (h0 : cur[i * 2]? = some (.int .i64 (i : Int))) (h1 : cur[i * 2 + 1]? = some (.int .i64 (p : Int))) :
    (loadVar 41 ⟨g, i * 2, none⟩).run Try.prog w = .ok (.agg #[.int .i64 (i : Int), .int .i64 (p : Int)]) w :=
  run_loadVar_mid (P := Try.prog) w g (i * 2) 41 [.int .i64 (i : Int), .int .i64 (p : Int)] _ (fun j v hj => by
    rw [h.cell (i * 2 + j)]
    match j, hj with
    | 0, hj => cases hj; exact h0
    | 1, hj => cases hj; exact h1) Try.underlying41 rfl i41
end Go.Proofs.Ytblkpnjmmdbgnaa
