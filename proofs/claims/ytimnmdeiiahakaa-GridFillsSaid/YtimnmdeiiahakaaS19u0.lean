/- What GridFills fills, in plain numbers; grids that are the same where there are places. -/
import Derived.Test.YtimnmdeiiahakaaS19w
import Derived.Test.YtimnmdeiiahakaaS19p
import Derived.Test.YtimnmdeiiahakaaRnd
import Derived.Deep.CutBlock
import Derived.Deep.DeepCutAuto
import Derived.DeepKeys
import Derived.RangeFuncLeaves
import Derived.LoopTactic
import Derived.Handy
namespace Go.Proofs.Ytimnmdeiiahakaa
open Go.RowKit Go.Lib

/-- What stands where the m last rows of each stage are full, and s stages more of the one ahead. -/
def cM (sz m k : Nat) : Option (Int × Int) := if m ≤ k % sz then full2 sz k else none
def cI (sz i s k : Nat) : Option (Int × Int) := if i + 1 ≤ k % sz ∨ (k % sz = i ∧ k / sz < s) then full2 sz k else none
theorem cM_top (sz : Nat) (h : 0 < sz) : cM sz sz = fun _ => none := by
  funext k
  unfold cM
  rw [if_neg (by have := Nat.mod_lt k h; omega)]
theorem cM_bot (sz : Nat) : cM sz 0 = full2 sz := by
  funext k; unfold cM; rw [if_pos (Nat.zero_le _)]
theorem cI_zero (sz i : Nat) : cI sz i 0 = cM sz (i + 1) := by
  funext k
  unfold cI cM
  by_cases h : i + 1 ≤ k % sz
  · rw [if_pos (.inl h), if_pos h]
  · rw [if_neg (fun h2 => h2.elim h (fun h3 => absurd h3.2 (Nat.not_lt_zero _))), if_neg h]
theorem cI_next (sz i s : Nat) (hi : i < sz) : putC (cI sz i s) (s * sz + i) (some ((s : Int), (i : Int))) = cI sz i (s + 1) := by
  funext k
  unfold putC cI
  by_cases e : k = s * sz + i
  · subst e
    rw [if_pos rfl, plc_mod sz s i hi, plc_div sz s i hi, if_pos (.inr ⟨rfl, Nat.lt_succ_self s⟩)]
    unfold full2
    rw [plc_mod sz s i hi, plc_div sz s i hi]
  · rw [if_neg e]
    have hne : ¬ (k / sz = s ∧ k % sz = i) := fun h => e ((plc_same sz k s i hi).mp h)
    by_cases h : i + 1 ≤ k % sz ∨ (k % sz = i ∧ k / sz < s)
    · rw [if_pos h, if_pos (by omega)]
    · rw [if_neg h, if_neg (by omega)]
theorem cI_all (sz st i k : Nat) (hk : k < st * sz) : cI sz i st k = cM sz i k := by
  unfold cI cM
  have := plc_in sz st k hk
  by_cases h : i ≤ k % sz
  · rw [if_pos h, if_pos (by omega)]
  · rw [if_neg h, if_neg (by omega)]
theorem GS.congr {α : Type} {tG tR tC : TypeId} {enc : Option α → List Value} {B st sz : Nat} {c d : Nat → Option α} {W : World} (h : GS tG tR tC enc B st sz c W) (e : ∀ k, k < st * sz → c k = d k) : GS tG tR tC enc B st sz d W := by
  refine ⟨?_, h.R, fun s hs => ?_, h.s1, h.s2, h.z1, h.z2⟩
  · rw [← itF_congr c d 0 (st * sz) fun j _ hj => e j (by omega)]; exact h.G
  · rw [← rowC_congr enc c d (s * sz) sz fun j h1 h2 => e j (by
      have := Nat.mul_le_mul_right sz (show s + 1 ≤ st by omega)
      rw [Nat.succ_mul] at this; omega)]
    exact h.C s hs
theorem full2_free (sz st k : Nat) (hk : k < st * sz) : (itF (putC (full2 sz) k none) 0 (st * sz)).length = st * sz - 1 := by
  have := len_free (full2 sz) (st * sz) k hk _ rfl
  rw [full2_len] at this
  omega
theorem eqs46 (a b : Int) (W : World) (ha : -9223372036854775808 ≤ a ∧ a ≤ 9223372036854775807) (hb : -9223372036854775808 ≤ b ∧ b ≤ 9223372036854775807) : (Op.equalIn Op.maxDepth 46 (.agg #[.int .i64 a, .int .i64 b]) (.agg #[.int .i64 a, .int .i64 b])).run Try.prog W = .ok true W := by
  have wf : ∀ n : Int, -9223372036854775808 ≤ n ∧ n ≤ 9223372036854775807 → (Lit.int .i64 n).wf = true := fun n h => by
    simp [Lit.wf, IntKind.min, IntKind.max, IntKind.signed, IntKind.bits]
    omega
  have key : ∀ (d : Nat) (n : Int), (Lit.int .i64 n).wf = true → Try.prog.keyLits (d + 1) 3 [.int .i64 n] = some [.int .i64 n] := fun d n h => by
    unfold Program.keyLits
    rw [Try.underlying3]
    simp [h]
  have hc : Try.prog.cellsOf 3 = 1 := by kernel_rfl
  have hc2 : Try.prog.cellsOf 46 = 2 := by kernel_rfl
  have lits : Try.prog.keyLits 2 46 [.int .i64 a, .int .i64 b] = some [.int .i64 a, .int .i64 b] := by
    unfold Program.keyLits
    rw [Try.underlying46]
    simp [hc, hc2, key 0 a (wf a ha), key 0 b (wf b hb), List.range_succ]
  have form : (Value.agg #[.int .i64 a, .int .i64 b]).formed Try.prog 46 = true := by
    simp [Value.formed, Try.underlying46, hc2]
  obtain ⟨r, hr, he⟩ := run_equalIn_deep (P := Try.prog) 9998 2 46 (by kernel_rfl) W 2 2 _ _ _ _ form form lits lits
  have e : r = true := he.mpr rfl
  rw [← e]; exact hr
theorem neq46 (a b : Int) (W : World) (ha : -9223372036854775808 ≤ a ∧ a ≤ 9223372036854775807) (hb : -9223372036854775808 ≤ b ∧ b ≤ 9223372036854775807) : (binOp .neq 46 (.agg #[.int .i64 a, .int .i64 b]) (.agg #[.int .i64 a, .int .i64 b])).run Try.prog W = .ok (.bool false) W := by
  unfold binOp
  simp only [Op.equal, Sem.run_bind, eqs46 a b W ha hb, Result.andThen_ok, Sem.run_pure]
  rfl
theorem load4 {w : World} {b : Nat} {x : Bool} (h : Blk w b 4 #[.bool x]) : (loadVar 4 ⟨b, 0, none⟩).run Try.prog w = .ok (.bool x) w := by
  have := h.cell 0
  have h2 : w.cell? ⟨b, 0, none⟩ = some (.bool x) := this
  go_simp
/-- How a function leaves whose result lies in a block. -/
theorem leave4 {R : Ending → World → Prop} {tmps : Array Value} {w : World} {b : Nat} {x : Bool} (hp : tmps.getD 6 undef = .pointer (some ⟨b, 0, none⟩)) (h : Blk w b 4 #[.bool x]) (hR : R (.returned (.bool x)) w) :
    LeavesInM Fence.wide 3 Try.prog Try.f4 tmps R [] .returning w := ⟨_, results_cell 6 4 b (.bool x) rfl hp (load4 h), hR⟩
end Go.Proofs.Ytimnmdeiiahakaa
