/- Texts that the walks of this seat lean on, put together. -/
import Derived.StillTailTactics
import Derived.Laws.Tables
import Derived.Lib.QuietBelow
import Derived.Test.YthldpnifodbheaaTk
import Derived.Test.YthldpnifodbheaaTl
import Derived.Test.YthldpnifodbheaaM01
namespace Go.Proofs.Ythldpnifodbheaa
open Go.RowKit Go.Sort
set_option maxRecDepth 100000 in
theorem still_load {P : Program} {w : World} {K : Act → Prop} {o : Oper} {a : Act} (ty : TypeId) (x : Operand) (ho : o.op = .load ty x) (p : Addr) (hx : a.eval x = .pointer (some p)) (v : Value)
    (hl : (loadVar ty p).run P w = .ok v w) (h : K (a.put o.dst v)) : o.still P a w K := by
  unfold Oper.still execOp
  simp only [ho, hx, Instr.loadAt, Instr.sureAddr, Sem.run_bind, Sem.run_pure, Result.andThen_ok, hl]
  exact ⟨rfl, h⟩
set_option maxRecDepth 100000 in
theorem exec_load {P : Program} {w : World} {o : Oper} {a : Act} (ty : TypeId) (x : Operand) (ho : o.op = .load ty x) (p : Addr) (hx : a.eval x = .pointer (some p)) (v : Value)
    (hl : (loadVar ty p).run P w = .ok v w) : (execOp a.eval o).run P w = .ok (.value v) w := by
  unfold execOp
  simp only [ho, hx, Instr.loadAt, Instr.sureAddr, Sem.run_bind, Sem.run_pure, Result.andThen_ok, hl]
set_option maxRecDepth 100000 in
theorem exec_build {P : Program} {w : World} {o : Oper} {a : Act} (t : TypeId) (parts : Array (Nat × Operand)) (ho : o.op = .build t parts) (vals : Array (Nat × Value)) (hv : (parts.map fun (i, x) => (i, a.eval x)) = vals) (cells : Array Value)
    (hf : P.built t vals.toList = some cells) : (execOp a.eval o).run P w = .ok (.value (.agg cells)) w := by
  subst hv
  unfold execOp
  simp only [ho, Sem.run_bind, run_build w t _ cells hf, Result.andThen_ok, Sem.run_pure]
set_option maxRecDepth 100000 in
theorem run_part_load {P : Program} {w : World} {g : Nat} {t : TypeId} {cs : Array Value} (ty : TypeId) (off : Nat) (ps : List Value) (d : TypeDesc) (hc : Blk w g t cs) (hp : (cs.toList.drop off).take ps.length = ps) (hu : P.underlying ty = some d) (hd : d.isRow = true) (hi : (P.info? ty).map (·.size) = some ps.length) :
    (loadVar ty ⟨g, off, none⟩).run P w = .ok (.agg ps.toArray) w :=
  run_loadVar_mid (P := P) w g off ty ps d (fun j v hj => by
    rw [hc.cell (off + j), ← Array.getElem?_toList, ← List.getElem?_drop]
    have hjl : j < ps.length := (List.getElem?_eq_some_iff.1 hj).1
    rw [← List.getElem?_take_of_lt hjl, hp]; exact hj) hu hd hi
end Go.Proofs.Ythldpnifodbheaa
