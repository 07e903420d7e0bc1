/- Texts that the walks of this seat lean on, put together. -/
import Derived.LoopTactic
import Derived.Handy
import Derived.Test.YtcgaibkpdihncaaDoorTk
import Derived.Test.YtcgaibkpdihncaaDoorM20
import Derived.Test.YtcgaibkpdihncaaDoorM21
import Derived.Test.YtcgaibkpdihncaaDoorM24
import Derived.Test.YtcgaibkpdihncaaDoorM33
namespace Go.Proofs.YtcgaibkpdihncaaDoor
open Go.RowKit Go.Lib
theorem btL_bl (c : Cf) (k : Fl) (h : okC c = true) (n i : Nat) (hi : i < n) : (btL c k n).getD i 0 < c.bl.toNat := by
  have := okC_bl h
  rw [btL_get c k n i hi]
  exact Nat.mod_lt _ (by omega)
end Go.Proofs.YtcgaibkpdihncaaDoor
namespace Go.Proofs.YtcgaibkpdihncaaDoor
open Go.RowKit
def flt (gf N gW L : Nat) : Array Value := #[.pointer (some ⟨gf, 0, none⟩), .int .i64 (N : Int), .slice (some ⟨gW, 0, none⟩) L L]
theorem flt_get (gf N gW L : Nat) : (flt gf N gW L)[0]? = some (.pointer (some ⟨gf, 0, none⟩)) ∧ (flt gf N gW L)[1]? = some (.int .i64 (N : Int)) ∧ (flt gf N gW L)[2]? = some (.slice (some ⟨gW, 0, none⟩) L L) := ⟨rfl, rfl, rfl⟩
def modTo (N : Nat) (l : List Nat) (k : Nat) : List Nat := (l.take k).map (· % N) ++ l.drop k
theorem modTo_len (N : Nat) (l : List Nat) (k : Nat) : (modTo N l k).length = l.length := by
  unfold modTo; simp; omega
theorem modTo_get (N : Nat) (l : List Nat) (k : Nat) (h : k < l.length) : (modTo N l k).getD k 0 = l.getD k 0 := by
  unfold modTo
  have e : ((l.take k).map (· % N)).length = k := by simp; omega
  rw [List.getD_eq_getElem?_getD, List.getElem?_append_right (by omega), e, Nat.sub_self, List.getElem?_drop, Nat.add_zero, List.getD_eq_getElem?_getD]
theorem modTo_next (N : Nat) (l : List Nat) (k : Nat) (h : k < l.length) : (modTo N l k).set k (l.getD k 0 % N) = modTo N l (k + 1) := by
  unfold modTo
  have e : ((l.take k).map (· % N)).length = k := by simp; omega
  rw [List.set_append_right k _ (by omega), e, Nat.sub_self, List.drop_eq_getElem_cons h, List.set_cons_zero, List.take_add_one, List.getElem?_eq_getElem h, List.map_append]
  simp [List.getD_eq_getElem?_getD, List.getElem?_eq_getElem h]
theorem modTo_all (N : Nat) (l : List Nat) (n : Nat) (h : l.length = n) : modTo N l n = l.map (· % N) := by
  unfold modTo; rw [← h, List.take_length, List.drop_length, List.append_nil]
theorem modTo_zero (N : Nat) (l : List Nat) : modTo N l 0 = l := by unfold modTo; simp
def plcL (c : Cf) (k : Fl) (N : Nat) : List Nat := (btN c k).map (· % N)
theorem btN_y {c : Cf} {k : Fl} (h : vK k = true) : btN c k = btL c k c.hs.toNat := by unfold btN; rw [h]; rfl
theorem btN_len_yes {c : Cf} {k : Fl} (h : vK k = true) : (btN c k).length = c.hs.toNat := by rw [btN_y h, btL_len]
theorem plcL_len (c : Cf) (k : Fl) (N : Nat) : (plcL c k N).length = (btN c k).length := by unfold plcL; rw [List.length_map]
end Go.Proofs.YtcgaibkpdihncaaDoor
