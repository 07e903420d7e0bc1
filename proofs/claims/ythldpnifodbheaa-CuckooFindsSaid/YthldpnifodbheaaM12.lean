/- Texts that the walks of this seat lean on, put together. -/
import Derived.BigFrame
import Derived.Test.YthldpnifodbheaaTk
import Derived.Test.YthldpnifodbheaaTl
import Derived.Test.YthldpnifodbheaaM03
import Derived.Test.YthldpnifodbheaaM08
import Derived.Test.YthldpnifodbheaaM10
import Derived.Test.YthldpnifodbheaaM11
namespace Go.Proofs.Ythldpnifodbheaa
open Go.RowKit
set_option maxRecDepth 100000 in
theorem kcells_src (p : Nat) (S D : Array Value) (sp dp : Nat) : ((kcells p S D sp dp).toList.drop 1).take S.toList.length = S.toList := by
  unfold kcells
  simp
set_option maxRecDepth 100000 in
theorem kcells_dst (p : Nat) (S D : Array Value) (sp dp : Nat) (hS : S.size = 17) : ((kcells p S D sp dp).toList.drop 18).take D.toList.length = D.toList := by
  have e : (kcells p S D sp dp).toList.drop 18 = D.toList ++ [Value.int .u16 (sp : Int), Value.int .u16 (dp : Int)] := by
    unfold kcells
    show (S.toList ++ (D.toList ++ [Value.int .u16 (sp : Int), Value.int .u16 (dp : Int)])).drop 17 = _
    have : S.toList.length = 17 := by simpa using hS
    rw [← this, List.drop_left]
  rw [e, List.take_left]
set_option maxRecDepth 100000 in
theorem cells17 (c : Array Value) (h : c.size = 17) : ∃ x0 x1 x2 x3 x4 x5 x6 x7 x8 x9 x10 x11 x12 x13 x14 x15 x16, c = #[x0, x1, x2, x3, x4, x5, x6, x7, x8, x9, x10, x11, x12, x13, x14, x15, x16] := by
  obtain ⟨l⟩ := c
  match l, h with
  | [x0, x1, x2, x3, x4, x5, x6, x7, x8, x9, x10, x11, x12, x13, x14, x15, x16], _ => exact ⟨x0, x1, x2, x3, x4, x5, x6, x7, x8, x9, x10, x11, x12, x13, x14, x15, x16, rfl⟩
end Go.Proofs.Ythldpnifodbheaa
namespace Go.Proofs.Ythldpnifodbheaa
open Go.RowKit
structure Fl where
  p : Nat
  sv : Bool
  S : List Nat
  dv : Bool
  D : List Nat
  sp : Nat
  dp : Nat
structure Fl.Fit (k : Fl) : Prop where
  p : k.p < 256
  lS : k.S.length = 16
  lD : k.D.length = 16
  bS : ∀ n ∈ k.S, n < 256
  bD : ∀ n ∈ k.D, n < 256
  sp : k.sp < 65536
  dp : k.dp < 65536
def Fl.cs (k : Fl) : Array Value := kcells k.p (cellsA k.sv k.S) (cellsA k.dv k.D) k.sp k.dp
def vK (k : Fl) : Bool := (decide (k.p = 6) || decide (k.p = 17)) && ((k.sv == k.dv) && (vldA k.sv k.S && vldA k.dv k.D))
def bR (k : Fl) : List Nat := k.p :: (if k.sv then 6 else 4) :: (bytesA k.sv k.S ++ (bytesA k.dv k.D ++ (bg 2 k.sp ++ bg 2 k.dp)))
def bK (k : Fl) : List Nat := if vK k then bR k else []
def k0 : Fl := ⟨0, false, z16, false, z16, 0, 0⟩
set_option maxRecDepth 100000 in
theorem bg2 (v : Nat) (h : v < 65536) : bg 2 v = [v / 256, v % 256] := by
  have q : v / 256 % 256 = v / 256 := Nat.mod_eq_of_lt (by omega)
  simp [bg, q]
set_option maxRecDepth 100000 in
theorem bytesA_lt (v : Bool) (bs : List Nat) (h : ∀ c ∈ bs, c < 256) : ∀ c ∈ bytesA v bs, c < 256 := by
  unfold bytesA
  split
  · exact h
  · exact fun c hc => h c (List.mem_of_mem_take hc)
set_option maxRecDepth 100000 in
theorem bK_lt (k : Fl) (hf : k.Fit) : ∀ c ∈ bK k, c < 256 := by
  unfold bK
  split
  · unfold bR
    intro c hc
    simp only [List.mem_cons, List.mem_append] at hc
    rcases hc with rfl | rfl | hc | hc | hc | hc
    · exact hf.p
    · split <;> omega
    · exact bytesA_lt _ _ hf.bS c hc
    · exact bytesA_lt _ _ hf.bD c hc
    · exact bg_lt 2 _ c hc
    · exact bg_lt 2 _ c hc
  · intro c hc; cases hc
set_option maxRecDepth 100000 in
theorem k0_fit : k0.Fit := ⟨by decide, rfl, rfl, by decide, by decide, by decide, by decide⟩
set_option maxRecDepth 100000 in
theorem Fl.cs_size (k : Fl) (h : k.Fit) : k.cs.size = 37 := kcells_size _ _ _ _ _ (by rw [cellsA_size, h.lS]) (by rw [cellsA_size, h.lD])
set_option maxRecDepth 100000 in
theorem Fl.cs_all (k : Fl) : k.cs.all (·.oneCell') = true := kcells_all _ _ _ _ _ (cellsA_all _ _) (cellsA_all _ _)
end Go.Proofs.Ythldpnifodbheaa
