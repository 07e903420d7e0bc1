/- Texts that the walks of this seat lean on, put together. -/
import Derived.Test.YtnpibdjfafpegaaTk
import Derived.Test.YtnpibdjfafpegaaM38
import Derived.Test.YtnpibdjfafpegaaM39
namespace Go.Proofs.Ytnpibdjfafpegaa
open Go.RowKit
def D16 (m : Nat) : List Nat := dB m ++ List.replicate 12 0
theorem D16_len (m : Nat) : (D16 m).length = 16 := rfl
theorem D16_lt (m : Nat) (h : m < 200) : ∀ c ∈ D16 m, c < 256 := by
  intro c hc
  rcases List.mem_append.1 hc with h | h
  · simp [dB] at h; omega
  · have := List.eq_of_mem_replicate h; omega
theorem D16_v (v : Bool) (m : Nat) : vldA v (D16 m) = true := by cases v <;> rfl
def B10 : List Nat := fB8 5 true true 0 [97, 98, 99] true false [0, 0, 0, 0]
def O10 : List Nat := inn B10 false (D16 150) (D16 1)
theorem B10_len : B10.length = 73 := by kernel_rfl
theorem B10_lt : ∀ c ∈ B10, c < 256 := by decide +kernel
theorem B10_rr : rr B10 = 0 := by kernel_rfl
theorem B10_s : inS B10 false = 89 := by kernel_rfl
theorem B10_e : nE B10 = 69 := by kernel_rfl
theorem B10_cut : rr (B10.take 30) = 1 := by kernel_rfl
theorem B10_net : (net B10).2.2 = 0 := by kernel_rfl
theorem B10_opn : opn (sixF B10) (pkt B10) = false := by kernel_rfl
theorem O10_len : O10.length = 89 := by kernel_rfl
theorem O10_lt : ∀ c ∈ O10, c < 256 := by decide +kernel
theorem O10_16 : O10.getD 16 0 = 8 := by kernel_rfl
theorem O10_17 : O10.getD 17 0 = 0 := by kernel_rfl
theorem O10_27 : O10.getD 27 0 = 41 := by kernel_rfl
theorem O10_was : Was B10 false (D16 150) (D16 1) O10 := was B10 false (D16 150) (D16 1) B10_lt B10_rr rfl rfl (D16_v _ _) (D16_v _ _) (by rw [B10_s]; omega)
end Go.Proofs.Ytnpibdjfafpegaa
