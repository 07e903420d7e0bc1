/- The answers at the few texts that the statements' own start names. -/
import Derived.Test.YtjcmidgeddhfoaaDoorK
namespace Go.Proofs.YtjcmidgeddhfoaaDoor
open Go.RowKit Go.Lib

/-- byteOf with the digits laid out: what the kernel can run. -/
def byteOf3 (l : List UInt8) : Option Nat :=
  match parseUintB 8 l with
  | .ok u => if dec3 u = l then some u else none
  | _ => none
theorem byteOf_eq (l : List UInt8) : byteOf l = byteOf3 l := by
  unfold byteOf byteOf3
  rcases h : parseUintB 8 l with u | _ | _
  · have hu : u < 1000 := by
      unfold parseUintB at h
      split at h
      · cases h
      · have := parseM_le _ _ _ _ (Nat.zero_le _) h
        omega
    show (if decDigits u = l then some u else none) = if dec3 u = l then some u else none
    rw [dec_dec3 u hu]
  · rfl
  · rfl
def parse43 : Nat → List UInt8 → Option (List Nat)
  | 0, _ => some []
  | k + 1, l =>
    match byteOf3 (cut46 l).1 with
    | none => none
    | some n => if (cut46 l).2.2 = decide (0 < k) then (parse43 k (cut46 l).2.1).map (n :: ·) else none
theorem parse4_eq : ∀ (k : Nat) (l : List UInt8), parse4 k l = parse43 k l
  | 0, _ => rfl
  | k + 1, l => by
    unfold parse4 parse43
    rw [byteOf_eq]
    rcases byteOf3 (cut46 l).1 with _ | n
    · rfl
    · show (if _ then _ else _) = (if _ then _ else _)
      rw [parse4_eq k]
def parseA3 (l : List UInt8) : Option (Bool × List Nat) :=
  match parse43 4 l with
  | some ns => some (false, ns ++ List.replicate 12 0)
  | none => (parse6 l).map fun bs => (true, bs)
theorem parseA_eq (l : List UInt8) : parseA l = parseA3 l := by
  unfold parseA parseA3
  rw [parse4_eq]
  cases parse43 4 l <;> rfl

/-- 10.0.0.1, and 2001:0db8::1. -/
def tenB : List Nat := [10, 0, 0, 1, 0, 0, 0, 0, 0, 0, 0, 0, 0, 0, 0, 0]
def sixB : List Nat := [32, 1, 13, 184, 0, 0, 0, 0, 0, 0, 0, 0, 0, 0, 0, 1]
theorem at_full : parseA [50, 48, 48, 49, 58, 48, 100, 98, 56, 58, 48, 48, 48, 48, 58, 48, 48, 48, 48, 58, 48, 48, 48, 48, 58, 48, 48, 48, 48, 58, 48, 48, 48, 48, 58, 48, 48, 48, 49] = some (true, sixB) := by
  rw [parseA_eq]; decide +kernel
theorem at_nought : parseA [49, 48, 46, 48, 46, 48, 46, 48, 49] = none := by
  rw [parseA_eq]; decide +kernel
theorem at_short : parseA [50, 48, 48, 49, 58, 100, 98, 56, 58, 48, 48, 48, 48, 58, 48, 48, 48, 48, 58, 48, 48, 48, 48, 58, 48, 48, 48, 48, 58, 48, 48, 48, 48, 58, 48, 48, 48, 49] = none := by
  rw [parseA_eq]; decide +kernel
theorem ten_text : textA false tenB = [49, 48, 46, 48, 46, 48, 46, 49] := by
  show text4 [10, 0, 0, 1] = _
  simp only [text4]
  rw [dec_dec3 10 (by omega), dec_dec3 0 (by omega), dec_dec3 1 (by omega)]
  decide
end Go.Proofs.YtjcmidgeddhfoaaDoor
