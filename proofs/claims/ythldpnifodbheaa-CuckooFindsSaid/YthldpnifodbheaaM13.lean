/- Texts that the walks of this seat lean on, put together. -/
import Derived.Test.YthldpnifodbheaaTk
import Derived.Test.YthldpnifodbheaaTl
import Derived.Test.YthldpnifodbheaaM08
import Derived.Test.YthldpnifodbheaaM12
namespace Go.Proofs.Ythldpnifodbheaa
open Go.RowKit Go.Lib
def kflow (n : Int) (v udp : Bool) : Fl := ⟨if udp then 17 else 6, v, kS (n % 1073741824).toNat ++ List.replicate 12 0, v, kD ++ List.replicate 12 0, 1000 + (n % 1073741824).toNat % 50000, 80⟩
set_option maxRecDepth 100000 in
theorem flow_any (n : Int) (v udp : Bool) (w : World) : Calls Try.prog 12 #[.int .i64 n, .bool v, .bool udp] w fun e w' => e = .returned (.agg (kflow n v udp).cs) ∧ Below w.heap.size w w' := key_any n v udp w
set_option maxRecDepth 100000 in
theorem kflow_fit (n : Int) (v udp : Bool) : (kflow n v udp).Fit := by
  refine ⟨?_, ?_, ?_, ?_, ?_, ?_, ?_⟩
  · unfold kflow; simp only; split <;> omega
  · unfold kflow kS; simp
  · unfold kflow kD; simp
  · unfold kflow kS
    intro c hc
    simp at hc
    omega
  · unfold kflow kD
    intro c hc
    simp at hc
    omega
  · unfold kflow; simp only; omega
  · unfold kflow; simp only; omega
set_option maxRecDepth 100000 in
theorem kflow_vK (n : Int) (v udp : Bool) : vK (kflow n v udp) = true := by
  unfold kflow kS kD vK
  generalize (n % 1073741824).toNat / 65536 % 256 = a
  generalize (n % 1073741824).toNat / 256 % 256 = b
  generalize (n % 1073741824).toNat % 256 = c
  cases v <;> cases udp <;> rfl
def kA : Fl := kflow 5 false false
set_option maxRecDepth 100000 in
theorem kA_fit : kA.Fit := kflow_fit _ _ _
set_option maxRecDepth 100000 in
theorem kA_v : vK kA = true := kflow_vK _ _ _
end Go.Proofs.Ythldpnifodbheaa
