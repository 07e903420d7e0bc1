/- Texts that the walks of this seat lean on, put together. -/
import Derived.Test.YthldpnifodbheaaTk
import Derived.Test.YthldpnifodbheaaTl
import Derived.Test.YthldpnifodbheaaM40
import Derived.Test.YthldpnifodbheaaM42
namespace Go.Proofs.Ythldpnifodbheaa
open Go.RowKit Go.Lib
theorem guard42 (op : BinOp) (x y : Operand) (A B : Array Value) (w : World) (hop : op = .eql ∨ op = .neq) : (eqGuard op 42 x y (.agg A) (.agg B)).run Try.prog w = .ok () w := by
  unfold eqGuard
  rcases hop with rfl | rfl <;> simp
theorem exec_neq42 {w : World} {o : Oper} {a : Act} (x y : Operand) (ho : o.op = .binOp .neq 42 x y 42) (A B : Array Value) (hx : a.eval x = .agg A) (hy : a.eval y = .agg B) (r : Bool) (hq : (Op.equalIn Op.maxDepth 42 (.agg A) (.agg B)).run Try.prog w = .ok r w) : (execOp a.eval o).run Try.prog w = .ok (.value (.bool (!r))) w := by
  unfold execOp
  simp only [ho, hx, hy, binOp, Op.equal, Sem.run_bind, guard42 _ x y A B w (.inr rfl), hq, Result.andThen_ok, Sem.run_pure]
end Go.Proofs.Ythldpnifodbheaa
