/- Texts that the walks of this seat lean on, put together. -/
import Derived.LoopTactic
import Derived.Handy
import Derived.Test.YthldpnifodbheaaTk
import Derived.Test.YthldpnifodbheaaTl
import Derived.Test.YthldpnifodbheaaM17
import Derived.Test.YthldpnifodbheaaM23
import Derived.Test.YthldpnifodbheaaM30
namespace Go.Proofs.Ythldpnifodbheaa
open Go.RowKit Go.Lib
set_option maxRecDepth 100000 in
theorem row_blk {w : World} {base : Nat} {e : TypeId} {k : Nat} {v : Value} {n : Nat} {xs : List Value} (h : w.ownsRow base e k v n xs) (hn : 0 < n) : ∃ (g cap : Nat) (cur : Array Value), v = .slice (some ⟨g, 0, none⟩) n cap ∧ Blk w g e cur ∧ ∀ (j : Nat) (u : Value), xs[j]? = some u → cur[j]? = some u := by
  have h' := h
  rcases h.2 with ⟨rfl, h0⟩ | ⟨g, cap, cur, rfl, hbg, hg, h3⟩
  · omega
  · refine ⟨g, cap, cur, rfl, hg, fun j u hj => ?_⟩
    have q := h'.cells (g := g) rfl j u hj
    rw [Addr.add_lit, Nat.zero_add] at q
    rw [← q]
    exact ((show Blk w g e cur from hg).cell j).symm
set_option maxRecDepth 100000 in
theorem dgN_pow (c : Cf) (k : Fl) : dgN c k < 2 ^ c.dg.toNat := by
  unfold dgN
  have := Nat.two_pow_pos c.dg.toNat
  split
  · exact Nat.mod_lt _ this
  · exact this
set_option maxRecDepth 100000 in
theorem plN_sz (c : Cf) (k : Fl) (h : okC c = true) (s : Nat) : plN c k s < c.sz.toNat := by
  have := okC_sz h
  unfold plN
  exact Nat.mod_lt _ (by omega)
end Go.Proofs.Ythldpnifodbheaa
