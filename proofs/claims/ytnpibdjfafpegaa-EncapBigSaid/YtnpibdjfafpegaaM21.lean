/- Texts that the walks of this seat lean on, put together. -/
import Derived.BigFrame
import Derived.Test.YtnpibdjfafpegaaTk
import Derived.Test.YtnpibdjfafpegaaM13
import Derived.Test.YtnpibdjfafpegaaM18
import Derived.Test.YtnpibdjfafpegaaM19
import Derived.Test.YtnpibdjfafpegaaM20
namespace Go.Proofs.Ytnpibdjfafpegaa
open Go.RowKit
theorem net_ok (zs : List Nat) (h : (net zs).2.2 = 0) : ((net zs).1 = 14 ∨ (net zs).1 = 18) ∧ (net zs).1 ≤ zs.length ∧ ((net zs).2.1 = 2048 ∨ (net zs).2.1 = 34525) := by
  unfold net netK at h ⊢
  split at h
  · simp at h
  · rename_i h14
    rw [if_neg h14]
    split at h
    · rename_i hv
      rw [if_pos hv]
      split at h
      · simp at h
      · rename_i h18
        rw [if_neg h18]
        split at h
        · rename_i hk
          rw [if_pos hk]
          exact ⟨.inr rfl, Nat.le_of_not_lt h18, hk⟩
        · simp at h
    · rename_i hv
      rw [if_neg hv]
      split at h
      · rename_i hk
        rw [if_pos hk]
        exact ⟨.inl rfl, Nat.le_of_not_lt h14, hk⟩
      · simp at h
def fhd (six : Bool) (T : List Nat) : Array Value := if six then rd6 T else hd T
def fhr (six : Bool) (T : List Nat) : Nat := if six then f6 T else ff T
def fS (six : Bool) (T : List Nat) : Nat := if six then 40 else hs T
def fL (six : Bool) (T : List Nat) : Nat := if six then 40 + u2 T 4 else u2 T 2
def fP (six : Bool) (T : List Nat) : Nat := if six then T.getD 6 0 else T.getD 9 0
def fA (six : Bool) (T : List Nat) : Array Value := if six then srcA T else a4 ((T.drop 12).take 4)
def fB (six : Bool) (T : List Nat) : Array Value := if six then dstA T else a4 ((T.drop 16).take 4)
theorem fA_all (six : Bool) (T : List Nat) : (fA six T).all (·.oneCell') = true := by unfold fA; split; exact cellsA_all _ _; exact a4_all _
theorem fB_all (six : Bool) (T : List Nat) : (fB six T).all (·.oneCell') = true := by unfold fB; split; exact cellsA_all _ _; exact a4_all _
theorem fhd_size (six : Bool) (T : List Nat) : (fhd six T).size = 37 := by
  unfold fhd; split
  · exact rd6_size T
  · unfold hd; split
    · exact hcells_size _ _ _ _ _ (a4_size _ (by simp; omega)) (a4_size _ (by simp; omega))
    · exact h0_size
theorem fhd_all (six : Bool) (T : List Nat) : (fhd six T).all (·.oneCell') = true := by
  unfold fhd; split
  · exact rd6_all T
  · unfold hd; split
    · exact hcells_all _ _ _ _ _ (a4_all _) (a4_all _)
    · exact h0_all
theorem fhr_lt (six : Bool) (T : List Nat) : fhr six T < 7 := by unfold fhr; split; exact f6_lt T; exact ff_lt T
structure Head (six : Bool) (T : List Nat) : Prop where
  hd : fhd six T = hcells (fS six T) (fL six T) (fP six T) (fA six T) (fB six T)
  sA : (fA six T).size = 17
  sB : (fB six T).size = 17
  low : 20 ≤ fS six T
  mid : fS six T ≤ fL six T
  high : fL six T ≤ T.length
  pr : fP six T = 6 ∨ fP six T = 17
theorem fhd_yes (six : Bool) (T : List Nat) (h : fhr six T = 0) : Head six T := by
  cases six with
  | true =>
    have h : f6 T = 0 := h
    obtain ⟨h40, -, hl, hp⟩ := f6_yes T h
    obtain ⟨sS, sD⟩ := ad_size T h40
    refine ⟨?_, sS, sD, ?_, ?_, hl, hp⟩
    · show rd6 T = _
      unfold rd6; rw [if_pos h]; rfl
    · show 20 ≤ 40; omega
    · show 40 ≤ 40 + u2 T 4; omega
  | false =>
    have h : ff T = 0 := h
    obtain ⟨h20, -, hs20, hsl, hl, -, -, hp⟩ := ff_yes T h
    refine ⟨?_, a4_size _ (by simp; omega), a4_size _ (by simp; omega), hs20, hsl, hl, hp⟩
    show hd T = _
    unfold hd; rw [if_pos h]; rfl
def sixF (zs : List Nat) : Bool := decide ((net zs).2.1 ≠ 2048)
def pkt (zs : List Nat) : List Nat := zs.drop (net zs).1
def sgm (zs : List Nat) : List Nat := (zs.drop ((net zs).1 + fS (sixF zs) (pkt zs))).take (fL (sixF zs) (pkt zs) - fS (sixF zs) (pkt zs))
def rr (zs : List Nat) : Nat :=
  if (net zs).2.2 ≠ 0 then (net zs).2.2
  else if fhr (sixF zs) (pkt zs) ≠ 0 then fhr (sixF zs) (pkt zs)
  else fs (fP (sixF zs) (pkt zs)) (sgm zs)
def vcells (six : Bool) (n s e : Nat) (kc : Array Value) (f : Nat) : Array Value := (Value.bool six :: .int .i64 (n : Int) :: .int .i64 (s : Int) :: .int .i64 (e : Int) :: (kc.toList ++ [.int .u8 (f : Int)])).toArray
theorem vcells_size (six : Bool) (n s e : Nat) (kc : Array Value) (f : Nat) (h : kc.size = 37) : (vcells six n s e kc f).size = 42 := by simp [vcells, h]
theorem vcells_all (six : Bool) (n s e : Nat) (kc : Array Value) (f : Nat) (h : kc.all (·.oneCell') = true) : (vcells six n s e kc f).all (·.oneCell') = true := by
  rw [Array.all_eq_true_iff_forall_mem] at *
  intro x hx
  simp only [vcells, List.mem_toArray, List.mem_cons, List.mem_append, Array.mem_toList_iff, List.not_mem_nil, or_false] at hx
  rcases hx with rfl | rfl | rfl | rfl | hx | rfl
  · rfl
  · rfl
  · rfl
  · rfl
  · exact h x hx
  · rfl
def v0 : Array Value := vcells false 0 0 0 (kcells 0 (cellsA false (List.replicate 16 0)) (cellsA false (List.replicate 16 0)) 0 0) 0
theorem v0_size : v0.size = 42 := rfl
theorem v0_all : v0.all (·.oneCell') = true := vcells_all _ _ _ _ _ _ (kcells_all _ _ _ _ _ (cellsA_all _ _) (cellsA_all _ _))
def keyF (zs : List Nat) : Array Value := kcells (fP (sixF zs) (pkt zs)) (fA (sixF zs) (pkt zs)) (fB (sixF zs) (pkt zs)) (u2 (sgm zs) 0) (u2 (sgm zs) 2)
def vw (zs : List Nat) : Array Value :=
  if rr zs = 0 then vcells (sixF zs) (net zs).1 ((net zs).1 + fS (sixF zs) (pkt zs)) ((net zs).1 + fL (sixF zs) (pkt zs)) (keyF zs) (fl (fP (sixF zs) (pkt zs)) (sgm zs))
  else v0
end Go.Proofs.Ytnpibdjfafpegaa
namespace Go.Proofs.Ytnpibdjfafpegaa
open Go.RowKit
theorem wpList_built2 {P : Program} {ops : Array Oper} {rest : List Oper} {op : Oper} {a : Act} {w : World} {Q : Exit → Act → World → Prop} (hw : Region.wanted op (yielded ops a.tmps) = true) (t : TypeId) (parts : Array (Nat × Operand)) (ho : op.op = .build t parts)
    (vals : Array (Nat × Value)) (hv : (parts.map fun (i, x) => (i, a.eval x)) = vals) (cells : Array Value) (hf : P.built t vals.toList = some cells) (h : wpList P ops Q rest (a.put op.dst (.agg cells)) w) : wpList P ops Q (op :: rest) a w :=
  BigFrame.wpList_want hw fun K hK => by
    unfold Oper.wp
    simp only [exec_build t parts ho vals hv cells hf]
    exact hK _ _ h
theorem i72 : (Try.prog.info? 50).map (·.size) = some 42 := by kernel_rfl
theorem i43 : (Try.prog.info? 30).map (·.size) = some 37 := by kernel_rfl
end Go.Proofs.Ytnpibdjfafpegaa
