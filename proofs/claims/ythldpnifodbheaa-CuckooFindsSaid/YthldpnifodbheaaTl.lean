/- A short word for a fact that is put by. Nothing of the program. -/
import Derived.Lib.Hide
namespace Go.Proofs.Ythldpnifodbheaa
/-- A fact, put by. -/
theorem lh {p : Prop} (h : p) : RowKit.Hid p := h
end Go.Proofs.Ythldpnifodbheaa
