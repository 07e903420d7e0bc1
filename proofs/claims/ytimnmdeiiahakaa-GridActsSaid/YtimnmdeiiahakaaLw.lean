/- A load whose value is known, under a guard that holds. Nothing of the program. -/
import Derived.Test.YtimnmdeiiahakaaSt
import Derived.BigFrame
namespace Go.Proofs.Ytimnmdeiiahakaa
open Go.RowKit
set_option maxRecDepth 100000 in
theorem wpList_load_want {P : Program} {ops : Array Oper} {rest : List Oper} {op : Oper} {a : Act} {w : World} {Q : Exit → Act → World → Prop} (hw : Region.wanted op (yielded ops a.tmps) = true) (ty : TypeId) (x : Operand) (ho : op.op = .load ty x)
    (p : Addr) (hx : a.eval x = .pointer (some p)) (v : Value) (hl : (loadVar ty p).run P w = .ok v w) (h : wpList P ops Q rest (a.put op.dst v) w) : wpList P ops Q (op :: rest) a w :=
  BigFrame.wpList_want hw fun K hK => by
    unfold Oper.wp
    simp only [exec_load ty x ho p hx v hl]
    exact hK _ _ h
end Go.Proofs.Ytimnmdeiiahakaa
