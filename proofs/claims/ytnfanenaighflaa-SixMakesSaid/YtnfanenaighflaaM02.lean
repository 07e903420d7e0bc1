/- Texts that the walks of this seat lean on, put together: each has its own remark below. -/
import Derived.DeepKeys
import Derived.Lib.QuietBelow
import Derived.StillTailTactics
import Derived.Laws.Tables
import Derived.BigFrame
import Derived.Deep.RegionHeld
import Derived.Below
import Derived.Laws.CopyOwn
import Derived.Handy
import Derived.BigQuiet
import Derived.Deep.QuietTactic
import Derived.KernelRfl
import Derived.Test.YtnfanenaighflaaM01
import Derived.Test.YtnfanenaighflaaProg

/- Addresses compared. -/
namespace Go.Proofs.Ytnfanenaighflaa
open Go.RowKit
theorem wf_byte : ∀ n : Fin 256, (Lit.int .u8 (n.1 : Int)).wf = true := by decide +kernel
theorem key5 (d n : Nat) (h : n < 256) : Try.prog.keyLits (d + 1) 5 [.int .u8 (n : Int)] = some [.int .u8 (n : Int)] := by
  unfold Program.keyLits
  rw [Try.underlying5]
  simp [wf_byte ⟨n, h⟩]
theorem key22 (d : Nat) (b0 b1 b2 b3 b4 b5 b6 b7 b8 b9 b10 b11 b12 b13 b14 b15 : Nat) (hb : ∀ n ∈ [b0, b1, b2, b3, b4, b5, b6, b7, b8, b9, b10, b11, b12, b13, b14, b15], n < 256) : Try.prog.keyLits (d + 2) 23 [.int .u8 (b0 : Int), .int .u8 (b1 : Int), .int .u8 (b2 : Int), .int .u8 (b3 : Int), .int .u8 (b4 : Int), .int .u8 (b5 : Int), .int .u8 (b6 : Int), .int .u8 (b7 : Int), .int .u8 (b8 : Int), .int .u8 (b9 : Int), .int .u8 (b10 : Int), .int .u8 (b11 : Int), .int .u8 (b12 : Int), .int .u8 (b13 : Int), .int .u8 (b14 : Int), .int .u8 (b15 : Int)] = some [.int .u8 (b0 : Int), .int .u8 (b1 : Int), .int .u8 (b2 : Int), .int .u8 (b3 : Int), .int .u8 (b4 : Int), .int .u8 (b5 : Int), .int .u8 (b6 : Int), .int .u8 (b7 : Int), .int .u8 (b8 : Int), .int .u8 (b9 : Int), .int .u8 (b10 : Int), .int .u8 (b11 : Int), .int .u8 (b12 : Int), .int .u8 (b13 : Int), .int .u8 (b14 : Int), .int .u8 (b15 : Int)] := by
  unfold Program.keyLits
  rw [Try.underlying23]
  have hc : Try.prog.cellsOf 5 = 1 := by kernel_rfl
  have hc2 : Try.prog.cellsOf 23 = 16 := by kernel_rfl
  simp only [List.mem_cons, List.not_mem_nil, or_false, forall_eq_or_imp, forall_eq] at hb
  obtain ⟨h0, h1, h2, h3, h4, h5, h6, h7, h8, h9, h10, h11, h12, h13, h14, h15⟩ := hb
  simp [hc, hc2, List.range_succ, key5 d b0 h0, key5 d b1 h1, key5 d b2 h2, key5 d b3 h3, key5 d b4 h4, key5 d b5 h5, key5 d b6 h6, key5 d b7 h7, key5 d b8 h8, key5 d b9 h9, key5 d b10 h10, key5 d b11 h11, key5 d b12 h12, key5 d b13 h13, key5 d b14 h14, key5 d b15 h15]
theorem key24 : Try.prog.keyTypeAt 3 25 = true := by kernel_rfl
theorem formed24 (v : Bool) (b0 b1 b2 b3 b4 b5 b6 b7 b8 b9 b10 b11 b12 b13 b14 b15 : Nat) : (Value.agg #[.bool v, .int .u8 (b0 : Int), .int .u8 (b1 : Int), .int .u8 (b2 : Int), .int .u8 (b3 : Int), .int .u8 (b4 : Int), .int .u8 (b5 : Int), .int .u8 (b6 : Int), .int .u8 (b7 : Int), .int .u8 (b8 : Int), .int .u8 (b9 : Int), .int .u8 (b10 : Int), .int .u8 (b11 : Int), .int .u8 (b12 : Int), .int .u8 (b13 : Int), .int .u8 (b14 : Int), .int .u8 (b15 : Int)]).formed Try.prog 25 = true := by kernel_rfl
theorem lits24 (v : Bool) (b0 b1 b2 b3 b4 b5 b6 b7 b8 b9 b10 b11 b12 b13 b14 b15 : Nat) (hb : ∀ n ∈ [b0, b1, b2, b3, b4, b5, b6, b7, b8, b9, b10, b11, b12, b13, b14, b15], n < 256) : Try.prog.keyLits 3 25 [.bool v, .int .u8 (b0 : Int), .int .u8 (b1 : Int), .int .u8 (b2 : Int), .int .u8 (b3 : Int), .int .u8 (b4 : Int), .int .u8 (b5 : Int), .int .u8 (b6 : Int), .int .u8 (b7 : Int), .int .u8 (b8 : Int), .int .u8 (b9 : Int), .int .u8 (b10 : Int), .int .u8 (b11 : Int), .int .u8 (b12 : Int), .int .u8 (b13 : Int), .int .u8 (b14 : Int), .int .u8 (b15 : Int)] = some [.bool v, .int .u8 (b0 : Int), .int .u8 (b1 : Int), .int .u8 (b2 : Int), .int .u8 (b3 : Int), .int .u8 (b4 : Int), .int .u8 (b5 : Int), .int .u8 (b6 : Int), .int .u8 (b7 : Int), .int .u8 (b8 : Int), .int .u8 (b9 : Int), .int .u8 (b10 : Int), .int .u8 (b11 : Int), .int .u8 (b12 : Int), .int .u8 (b13 : Int), .int .u8 (b14 : Int), .int .u8 (b15 : Int)] := by
  unfold Program.keyLits
  rw [Try.underlying25]
  have hc : Try.prog.cellsOf 4 = 1 := by kernel_rfl
  have hc2 : Try.prog.cellsOf 23 = 16 := by kernel_rfl
  have hc3 : Try.prog.cellsOf 25 = 17 := by kernel_rfl
  have h4 : Try.prog.keyLits 2 4 [.bool v] = some [.bool v] := by unfold Program.keyLits; rw [Try.underlying4]
  simp [hc, hc2, hc3, h4, key22 0 b0 b1 b2 b3 b4 b5 b6 b7 b8 b9 b10 b11 b12 b13 b14 b15 hb]
theorem eq_same (v : Bool) (b0 b1 b2 b3 b4 b5 b6 b7 b8 b9 b10 b11 b12 b13 b14 b15 : Nat) (hb : ∀ n ∈ [b0, b1, b2, b3, b4, b5, b6, b7, b8, b9, b10, b11, b12, b13, b14, b15], n < 256) (w : World) :
    (Op.equalIn 10000 25 (.agg #[.bool v, .int .u8 (b0 : Int), .int .u8 (b1 : Int), .int .u8 (b2 : Int), .int .u8 (b3 : Int), .int .u8 (b4 : Int), .int .u8 (b5 : Int), .int .u8 (b6 : Int), .int .u8 (b7 : Int), .int .u8 (b8 : Int), .int .u8 (b9 : Int), .int .u8 (b10 : Int), .int .u8 (b11 : Int), .int .u8 (b12 : Int), .int .u8 (b13 : Int), .int .u8 (b14 : Int), .int .u8 (b15 : Int)]) (.agg #[.bool v, .int .u8 (b0 : Int), .int .u8 (b1 : Int), .int .u8 (b2 : Int), .int .u8 (b3 : Int), .int .u8 (b4 : Int), .int .u8 (b5 : Int), .int .u8 (b6 : Int), .int .u8 (b7 : Int), .int .u8 (b8 : Int), .int .u8 (b9 : Int), .int .u8 (b10 : Int), .int .u8 (b11 : Int), .int .u8 (b12 : Int), .int .u8 (b13 : Int), .int .u8 (b14 : Int), .int .u8 (b15 : Int)])).run Try.prog w = .ok true w := by
  obtain ⟨r, hr, he⟩ := run_equalIn_deep (P := Try.prog) 9997 3 25 key24 w 3 3 _ _ _ _ (formed24 v b0 b1 b2 b3 b4 b5 b6 b7 b8 b9 b10 b11 b12 b13 b14 b15) (formed24 v b0 b1 b2 b3 b4 b5 b6 b7 b8 b9 b10 b11 b12 b13 b14 b15) (lits24 v b0 b1 b2 b3 b4 b5 b6 b7 b8 b9 b10 b11 b12 b13 b14 b15 hb) (lits24 v b0 b1 b2 b3 b4 b5 b6 b7 b8 b9 b10 b11 b12 b13 b14 b15 hb)
  have e : r = true := he.2 rfl
  subst e
  exact hr
theorem eq_zero (w : World) : (Op.equalIn 10000 25 (.agg #[.bool false, .int .u8 0, .int .u8 0, .int .u8 0, .int .u8 0, .int .u8 0, .int .u8 0, .int .u8 0, .int .u8 0, .int .u8 0, .int .u8 0, .int .u8 0, .int .u8 0, .int .u8 0, .int .u8 0, .int .u8 0, .int .u8 0]) (.agg #[.bool false, .int .u8 0, .int .u8 0, .int .u8 0, .int .u8 0, .int .u8 0, .int .u8 0, .int .u8 0, .int .u8 0, .int .u8 0, .int .u8 0, .int .u8 0, .int .u8 0, .int .u8 0, .int .u8 0, .int .u8 0, .int .u8 0])).run Try.prog w = .ok true w := by kernel_rfl
theorem eq_ten (w : World) : (Op.equalIn 10000 25 (.agg #[.bool false, .int .u8 10, .int .u8 0, .int .u8 0, .int .u8 1, .int .u8 0, .int .u8 0, .int .u8 0, .int .u8 0, .int .u8 0, .int .u8 0, .int .u8 0, .int .u8 0, .int .u8 0, .int .u8 0, .int .u8 0, .int .u8 0]) (.agg #[.bool false, .int .u8 10, .int .u8 0, .int .u8 0, .int .u8 1, .int .u8 0, .int .u8 0, .int .u8 0, .int .u8 0, .int .u8 0, .int .u8 0, .int .u8 0, .int .u8 0, .int .u8 0, .int .u8 0, .int .u8 0, .int .u8 0])).run Try.prog w = .ok true w := by kernel_rfl
end Go.Proofs.Ytnfanenaighflaa

/- addr.Bytes, addr.From, the statements' Valid, and whether two are one, at an address that is told by its bytes. -/
namespace Go.Proofs.Ytnfanenaighflaa
open Go.RowKit Go.Lib

theorem ref_adr (v : Bool) (bs : List Nat) (hl : bs.length = 16) (w : World) :
    Calls Try.prog 7 #[adr v bs] w fun e w' => e = .returned (.bool (vldA v bs)) ∧ Below w.heap.size w w' := by
  obtain ⟨b0, b1, b2, b3, b4, b5, b6, b7, b8, b9, b10, b11, b12, b13, b14, b15, rfl⟩ := list16 bs hl
  exact ref_valid v b0 b1 b2 b3 b4 b5 b6 b7 b8 b9 b10 b11 b12 b13 b14 b15 w
/-- The bytes of an address. -/
def bytesA (v : Bool) (bs : List Nat) : List Nat := if v then bs else bs.take 4
theorem bytes_own (v : Bool) (bs : List Nat) (hl : bs.length = 16) (w : World) :
    Calls Try.prog 24 #[adr v bs] w fun e w' => ∃ z, e = .returned z ∧ w'.ownsRow w.heap.size 5 1 z (bytesA v bs).length (nus .u8 (bytesA v bs)) ∧ Below w.heap.size w w' := by
  obtain ⟨b0, b1, b2, b3, b4, b5, b6, b7, b8, b9, b10, b11, b12, b13, b14, b15, rfl⟩ := list16 bs hl
  cases v with
  | true => exact bytes_six b0 b1 b2 b3 b4 b5 b6 b7 b8 b9 b10 b11 b12 b13 b14 b15 w
  | false => exact bytes_four b0 b1 b2 b3 b4 b5 b6 b7 b8 b9 b10 b11 b12 b13 b14 b15 w
theorem bytes_adr (v : Bool) (bs : List Nat) (hl : bs.length = 16) (w : World) :
    Calls Try.prog 24 #[adr v bs] w fun e w' => ∃ z, e = .returned z ∧ Rd w' z (nus .u8 (bytesA v bs)) ∧ Below w.heap.size w w' :=
  (bytes_own v bs hl w).mono fun _ _ ⟨z, h1, h2, h3⟩ => ⟨z, h1, Rd.own h2, h3⟩
theorem from_adr (v : Bool) (bs : List Nat) (hl : bs.length = 16) (hv : validA v bs) (z : Value) (w : World) (hr : Rd w z (nus .u8 (bytesA v bs))) :
    Calls Try.prog 19 #[z] w fun e w' => e = .returned (.tuple #[adr v bs, .int .i64 0]) ∧ Below w.heap.size w w' := by
  cases v with
  | true =>
    have h := from_ok z true bs w hr (.inr ⟨hl, rfl⟩)
    rw [hl] at h
    simpa using h
  | false =>
    have h4 : (bs.take 4).length = 4 := by simp [hl]
    have h := from_ok z false (bs.take 4) w hr (.inl ⟨h4, rfl⟩)
    have e : bs.take 4 ++ List.replicate (16 - (bs.take 4).length) 0 = bs := by
      rw [h4]
      rcases hv with hv | hv
      · cases hv
      · refine ext_getD _ _ 0 (by simp [hl]) fun i hi => ?_
        have hi16 : i < 16 := by simpa [hl] using hi
        by_cases h : i < 4
        · rw [List.getD_eq_getElem?_getD, List.getElem?_append_left (by rw [h4]; exact h), List.getElem?_take_of_lt h, ← List.getD_eq_getElem?_getD]
        · rw [hv i (by omega) hi16, List.getD_eq_getElem?_getD, List.getElem?_append_right (by rw [h4]; omega), h4, List.getElem?_replicate]
          split <;> rfl
    rw [e] at h
    exact h
theorem eq_adr (v : Bool) (bs : List Nat) (hl : bs.length = 16) (hb : ∀ n ∈ bs, n < 256) (w : World) : (Op.equalIn 10000 25 (adr v bs) (adr v bs)).run Try.prog w = .ok true w := by
  obtain ⟨b0, b1, b2, b3, b4, b5, b6, b7, b8, b9, b10, b11, b12, b13, b14, b15, rfl⟩ := list16 bs hl
  exact eq_same v b0 b1 b2 b3 b4 b5 b6 b7 b8 b9 b10 b11 b12 b13 b14 b15 hb w
end Go.Proofs.Ytnfanenaighflaa

/- ipsix in plain numbers; ipsix.lengthOf, ipsix.fault. -/
namespace Go.Proofs.Ytnfanenaighflaa
open Go.RowKit

/-- The reason why what begins with a header can't be taken, or 0. -/
def f6 (zs : List Nat) : Nat :=
  if zs.length < 40 then 1
  else if zs.getD 0 0 / 16 ≠ 6 then 3
  else if zs.length < 40 + u2 zs 4 then 1
  else if zs.getD 6 0 = 44 then 5
  else if zs.getD 6 0 ≠ 6 ∧ zs.getD 6 0 ≠ 17 then 6 else 0
theorem f6_lt (zs : List Nat) : f6 zs < 7 := by unfold f6; repeat' split
                                                all_goals omega
theorem f6_yes (zs : List Nat) (h : f6 zs = 0) : 40 ≤ zs.length ∧ zs.getD 0 0 / 16 = 6 ∧ 40 + u2 zs 4 ≤ zs.length ∧ (zs.getD 6 0 = 6 ∨ zs.getD 6 0 = 17) := by
  unfold f6 at h
  repeat' split at h
  all_goals omega
/-- The cells of a header. -/
def scells (l p : Nat) (S D : Array Value) : Array Value := (Value.int .i64 (l : Int) :: .int .u8 (p : Int) :: (S.toList ++ D.toList)).toArray
theorem scells_size (l p : Nat) (S D : Array Value) (hS : S.size = 17) (hD : D.size = 17) : (scells l p S D).size = 36 := by simp [scells, hS, hD]
theorem scells_all (l p : Nat) (S D : Array Value) (hS : S.all (·.oneCell') = true) (hD : D.all (·.oneCell') = true) : (scells l p S D).all (·.oneCell') = true := by
  rw [Array.all_eq_true_iff_forall_mem] at *
  intro x hx
  simp only [scells, List.mem_toArray, List.mem_cons, List.mem_append, Array.mem_toList_iff] at hx
  rcases hx with rfl | rfl | h | h
  · rfl
  · rfl
  · exact hS x h
  · exact hD x h
theorem scells_src (l p : Nat) (S D : Array Value) : ((scells l p S D).toList.drop 2).take S.toList.length = S.toList := by simp [scells]
theorem scells_dst (l p : Nat) (S D : Array Value) (hS : S.size = 17) : ((scells l p S D).toList.drop 19).take D.toList.length = D.toList := by
  have : S.toList.length = 17 := by simpa using hS
  show ((S.toList ++ D.toList).drop 17).take _ = _
  rw [← this, List.drop_left, List.take_length]
theorem scells_get (l p : Nat) (S D : Array Value) : (scells l p S D)[0]? = some (.int .i64 (l : Int)) ∧ (scells l p S D)[1]? = some (.int .u8 (p : Int)) := ⟨rfl, rfl⟩
/-- An address of sixteen bytes. -/
def z17 : Array Value := cellsA false (List.replicate 16 0)
theorem z17_size : z17.size = 17 := rfl
theorem z17_all : z17.all (·.oneCell') = true := cellsA_all _ _
/-- Nothing. -/
def s0 : Array Value := scells 0 0 z17 z17
theorem s0_size : s0.size = 36 := rfl
theorem s0_all : s0.all (·.oneCell') = true := scells_all _ _ _ _ z17_all z17_all
/-- What is read: the cells of the header. -/
def srcA (zs : List Nat) : Array Value := cellsA true ((zs.drop 8).take 16)
def dstA (zs : List Nat) : Array Value := cellsA true ((zs.drop 24).take 16)
def hd6 (zs : List Nat) : Array Value := if f6 zs = 0 then scells (40 + u2 zs 4) (zs.getD 6 0) (srcA zs) (dstA zs) else s0
theorem ad_size (zs : List Nat) (h : 40 ≤ zs.length) : (srcA zs).size = 17 ∧ (dstA zs).size = 17 := by
  unfold srcA dstA
  rw [cellsA_size, cellsA_size]
  simp; omega
theorem hd6_size (zs : List Nat) : (hd6 zs).size = 36 := by
  unfold hd6
  split
  · rename_i h
    have := ad_size zs (f6_yes zs h).1
    exact scells_size _ _ _ _ this.1 this.2
  · rfl
theorem hd6_all (zs : List Nat) : (hd6 zs).all (·.oneCell') = true := by
  unfold hd6
  split
  · exact scells_all _ _ _ _ (cellsA_all _ _) (cellsA_all _ _)
  · exact s0_all

set_option maxHeartbeats 400000 in
theorem plen_any (v : Value) (zs : List Nat) (w : World) (hr : Rd w v (nus .u8 zs)) (hb : ∀ c ∈ zs, c < 256) (hk : 40 ≤ zs.length) :
    Calls Try.prog 20 #[v] w fun e w' => e = .returned (.int .i64 ((40 + u2 zs 4 : Nat) : Int)) ∧ w = w' := by
  have H := Lib.hid (get16_yes v 4 zs w hr hb (by omega))
  have HE := Lib.hid (be_u2 zs 4 (by omega))
  have hl := u2_lt zs 4 hb
  generalize u2 zs 4 = l at *
  have HG := Lib.hid (show ((40 + l : Nat) : Int) = 40 + (l : Int) by omega)
  clear hr hb hk
  go_enter Try.func20, Try.ntmps20
  go_wp2_with fail
  refine H.out.mono ?_; rintro e w' ⟨rfl, rfl⟩
  rw [HE.out]
  go_wp2
  go_ret
  exact ⟨ret_int (by rw [HG.out]), rfl⟩

set_option maxHeartbeats 1000000 in
theorem fault_any (v : Value) (zs : List Nat) (w : World) (hr : Rd w v (nus .u8 zs)) (hb : ∀ c ∈ zs, c < 256) :
    Calls Try.prog 18 #[v] w fun e w' => e = .returned (.int .i64 (f6 zs : Nat)) ∧ w = w' := by
  obtain ⟨a, cap, rfl, h1, h2⟩ := rd_shape hr
  by_cases h40 : zs.length < 40
  · have hf : f6 zs = 1 := by unfold f6; rw [if_pos h40]
    rw [hf]
    unfold maxLen at h2
    clear hr hb hf
    go_enter Try.func18, Try.ntmps18
    go_wp2
    go_ret
    exact ⟨rfl, rfl⟩
  obtain ⟨b, off, rfl, hc⟩ := hr.cells (by omega)
  have c0 := hc 0 (by omega)
  have c6 := hc 6 (by omega)
  have PL := Lib.hid (plen_any _ zs w hr hb (by omega))
  have hx := getD_lt zs hb 0
  have hp := getD_lt zs hb 6
  have hl := u2_lt zs 4 hb
  unfold maxLen at h2
  rw [Nat.add_zero] at c0
  clear hc hr hb
  obtain ⟨F, hFe⟩ : ∃ F, F = f6 zs := ⟨_, rfl⟩
  rw [← hFe]
  unfold f6 at hFe
  rw [if_neg h40] at hFe
  have HF := Lib.hid hFe
  clear hFe
  generalize zs.getD 0 0 = x at *
  generalize zs.getD 6 0 = p at *
  generalize u2 zs 4 = l at *
  generalize zs.length = n at *
  by_cases h6 : x / 16 = 6
  case neg =>
    have hf : F = 3 := by rw [HF.out, if_pos h6]
    have g4 : ((x : Int) / 16 != 6) = true := by rw [bne_iff_ne]; omega
    subst hf
    clear h6
    go_enter Try.func18, Try.ntmps18
    go_wp2
    go_ret
    exact ⟨rfl, rfl⟩
  have g4 : ((x : Int) / 16 != 6) = false := by rw [bne_eq_false_iff_eq]; omega
  rw [if_neg (by omega)] at HF
  clear h6
  go_enter Try.func18, Try.ntmps18
  go_wp2_with fail
  refine PL.out.mono ?_; rintro e w' ⟨rfl, rfl⟩
  clear PL
  by_cases hnl : n < 40 + l
  · have hf : F = 1 := by rw [HF.out, if_pos hnl]
    have gl : decide (n < 40 + l) = true := decide_eq_true hnl
    subst hf
    go_wp2
    go_ret
    exact ⟨rfl, rfl⟩
  have gl : decide (n < 40 + l) = false := decide_eq_false hnl
  rw [if_neg hnl] at HF
  by_cases hp44 : p = 44
  · have hf : F = 5 := by rw [HF.out, if_pos hp44]
    subst hf hp44
    go_wp2
    go_ret
    exact ⟨rfl, rfl⟩
  rw [if_neg hp44] at HF
  by_cases hp6 : p = 6
  · have hf : F = 0 := by rw [HF.out, if_neg (by omega)]
    subst hf hp6
    go_wp2
    go_ret
    exact ⟨rfl, rfl⟩
  by_cases hp17 : p = 17
  · have hf : F = 0 := by rw [HF.out, if_neg (by omega)]
    subst hf hp17
    go_wp2
    go_ret
    exact ⟨rfl, rfl⟩
  have hf : F = 6 := by rw [HF.out, if_pos ⟨hp6, hp17⟩]
  have g6 : ((p : Int) == 6) = false := by rw [beq_eq_false_iff_ne]; omega
  have g17 : ((p : Int) == 17) = false := by rw [beq_eq_false_iff_ne]; omega
  have g44 : ((p : Int) == 44) = false := by rw [beq_eq_false_iff_ne]; omega
  subst hf
  clear hp6 hp17 hp44
  go_wp2
  go_ret
  exact ⟨rfl, rfl⟩
end Go.Proofs.Ytnfanenaighflaa

/- Steps of a region that only reads: a block that is known whole is loaded; cells are built. Nothing of the program. -/
namespace Go.Proofs.Ytnfanenaighflaa
open Go.RowKit Go.Sort

theorem still_load {P : Program} {w : World} {K : Act → Prop} {o : Oper} {a : Act} (ty : TypeId) (x : Operand) (ho : o.op = .load ty x) (p : Addr) (hx : a.eval x = .pointer (some p)) (v : Value)
    (hl : (loadVar ty p).run P w = .ok v w) (h : K (a.put o.dst v)) : o.still P a w K := by
  unfold Oper.still execOp
  simp only [ho, hx, Instr.loadAt, Instr.sureAddr, Sem.run_bind, Sem.run_pure, Result.andThen_ok, hl]
  exact ⟨rfl, h⟩
theorem still_build {P : Program} {w : World} {K : Act → Prop} {o : Oper} {a : Act} (t : TypeId) (parts : Array (Nat × Operand)) (ho : o.op = .build t parts) (cells : Array Value)
    (hf : P.built t (parts.map fun (i, x) => (i, a.eval x)).toList = some cells) (h : K (a.put o.dst (.agg cells))) : o.still P a w K := by
  unfold Oper.still execOp
  simp only [ho, Sem.run_bind, run_build w t _ cells hf, Result.andThen_ok]
  exact ⟨rfl, h⟩
theorem still_build2 {P : Program} {w : World} {K : Act → Prop} {o : Oper} {a : Act} (t : TypeId) (parts : Array (Nat × Operand)) (ho : o.op = .build t parts) (vals : Array (Nat × Value)) (hv : (parts.map fun (i, x) => (i, a.eval x)) = vals) (cells : Array Value)
    (hf : P.built t vals.toList = some cells) (h : K (a.put o.dst (.agg cells))) : o.still P a w K :=
  still_build t parts ho cells (by rw [hv]; exact hf) h
theorem wpList_built {P : Program} {ops : Array Oper} {rest : List Oper} {op : Oper} {a : Act} {w : World} {Q : Exit → Act → World → Prop} (hg : op.guard = none) (t : TypeId) (parts : Array (Nat × Operand)) (ho : op.op = .build t parts) (cells : Array Value)
    (hf : P.built t (parts.map fun (i, x) => (i, a.eval x)).toList = some cells)
    (h : wpList P ops Q rest (a.put op.dst (.agg cells)) w) : wpList P ops Q (op :: rest) a w :=
  wpList_build hg t parts ho (by rw [hf]; rfl) (by rw [hf]; exact h)
theorem exec_load {P : Program} {w : World} {o : Oper} {a : Act} (ty : TypeId) (x : Operand) (ho : o.op = .load ty x) (p : Addr) (hx : a.eval x = .pointer (some p)) (v : Value)
    (hl : (loadVar ty p).run P w = .ok v w) : (execOp a.eval o).run P w = .ok (.value v) w := by
  unfold execOp
  simp only [ho, hx, Instr.loadAt, Instr.sureAddr, Sem.run_bind, Sem.run_pure, Result.andThen_ok, hl]
theorem exec_build {P : Program} {w : World} {o : Oper} {a : Act} (t : TypeId) (parts : Array (Nat × Operand)) (ho : o.op = .build t parts) (vals : Array (Nat × Value)) (hv : (parts.map fun (i, x) => (i, a.eval x)) = vals) (cells : Array Value)
    (hf : P.built t vals.toList = some cells) : (execOp a.eval o).run P w = .ok (.value (.agg cells)) w := by
  subst hv
  unfold execOp
  simp only [ho, Sem.run_bind, run_build w t _ cells hf, Result.andThen_ok, Sem.run_pure]
/-- A part of a block that is known whole is loaded. -/
theorem run_part_load {P : Program} {w : World} {g : Nat} {t : TypeId} {cs : Array Value} (ty : TypeId) (off : Nat) (ps : List Value) (d : TypeDesc) (hc : Blk w g t cs) (hp : (cs.toList.drop off).take ps.length = ps) (hu : P.underlying ty = some d) (hd : d.isRow = true) (hi : (P.info? ty).map (·.size) = some ps.length) :
    (loadVar ty ⟨g, off, none⟩).run P w = .ok (.agg ps.toArray) w :=
  run_loadVar_mid (P := P) w g off ty ps d (fun j v hj => by
    rw [hc.cell (off + j), ← Array.getElem?_toList, ← List.getElem?_drop]
    have hjl : j < ps.length := (List.getElem?_eq_some_iff.1 hj).1
    rw [← List.getElem?_take_of_lt hjl, hp]; exact hj) hu hd hi
end Go.Proofs.Ytnfanenaighflaa

/- A call that leaves the world as it was, as one that only makes memory. Nothing of the program. -/
namespace Go.Proofs.Ytnfanenaighflaa
open Go.RowKit

theorem same_below {P : Program} {f : Nat} {args : Array Value} {W : World} {x : Ending} (h : Calls P f args W fun e w' => e = x ∧ W = w') : Calls P f args W fun e w' => e = x ∧ Below W.heap.size W w' :=
  h.mono fun _ _ ⟨h1, h2⟩ => ⟨h1, h2 ▸ Below.refl _ _⟩
theorem rd_cell {w : World} {b off n : Nat} {v : Value} (h : w.cell? ⟨b, off + n, none⟩ = some v) : b < w.heap.size := by
  rcases Nat.lt_or_ge b w.heap.size with hlt | hge
  · exact hlt
  · simp [World.cell?, Array.getElem?_eq_none hge] at h
end Go.Proofs.Ytnfanenaighflaa

/- A load whose value is known, under a guard that holds. Nothing of the program. -/
namespace Go.Proofs.Ytnfanenaighflaa
open Go.RowKit
theorem wpList_load_want {P : Program} {ops : Array Oper} {rest : List Oper} {op : Oper} {a : Act} {w : World} {Q : Exit → Act → World → Prop} (hw : Region.wanted op (yielded ops a.tmps) = true) (ty : TypeId) (x : Operand) (ho : op.op = .load ty x)
    (p : Addr) (hx : a.eval x = .pointer (some p)) (v : Value) (hl : (loadVar ty p).run P w = .ok v w) (h : wpList P ops Q rest (a.put op.dst v) w) : wpList P ops Q (op :: rest) a w :=
  BigFrame.wpList_want hw fun K hK => by
    unfold Oper.wp
    simp only [exec_load ty x ho p hx v hl]
    exact hK _ _ h
end Go.Proofs.Ytnfanenaighflaa

/- A store into a block that is known whole, where an operation alone is looked at. Nothing of the program. -/
namespace Go.Proofs.Ytnfanenaighflaa
open Go.RowKit

theorem wp_blk_store {P : Program} {w : World} {K : Act → World → Prop} {Q : Exit → Act → World → Prop} {g : Nat} {t : TypeId} {cs : Array Value} {op : Oper} {a : Act} (ty : TypeId) (x y : Operand) (ho : op.op = .store ty x y)
    (vs : Array Value) (hx : a.eval x = .pointer (some ⟨g, 0, none⟩)) (hy : a.eval y = .agg vs) (hc : Blk w g t cs) (hs : vs.size = cs.size)
    (hi : (P.info? ty).map (·.size) = some vs.size) (h1 : vs.all (·.oneCell') = true)
    (h : ∀ w', Blk w' g t vs → (∀ k, k ≠ g → w'.heap[k]? = w.heap[k]?) → (∀ B, B ≤ g → Below B w w') → K (a.put op.dst undef) w') : op.wp P a w K Q :=
  wp_store_mid ty x y ho g 0 vs hx hy (hc.thereN (by omega)) hi h1
    (h _ (hc.setAll vs hs) (fun k hk => setCells_far k hk _ _ _) (fun B hB => setCells_below hB _ _ _ (Below.refl _ _)))
end Go.Proofs.Ytnfanenaighflaa

/- A region's walk with a stronger class of worlds behind a call. Nothing of the program. -/
namespace Go.Proofs.Ytnfanenaighflaa
open Go.RowKit

/-- The class of worlds may be made smaller on the way. -/
theorem wpAnyH_mono {P : Program} {ops : Array Oper} {Q : Exit → Act → World → Prop} {md : Region.Mode} {S S' : World → Prop} (hS : ∀ w, S' w → S w) :
    ∀ (fuel : Nat) (listed : Array Bool) (a : Act) (w : World), wpAnyH P md ops Q S' fuel listed a w → wpAnyH P md ops Q S fuel listed a w
  | 0, _, _, _, h => h
  | _ + 1, _, _, _, h => ⟨h.1, fun i hi => wpOp_mono (fun _ _ h' => ⟨hS _ h'.1, wpAnyH_mono hS _ _ _ _ h'.2⟩) (h.2 i hi)⟩
end Go.Proofs.Ytnfanenaighflaa

/- ipsix.Read. -/
namespace Go.Proofs.Ytnfanenaighflaa
open Go.RowKit

theorem arr17 (c : Array Value) (h : c.size = 17) : ∃ x0 x1 x2 x3 x4 x5 x6 x7 x8 x9 x10 x11 x12 x13 x14 x15 x16, c = #[x0, x1, x2, x3, x4, x5, x6, x7, x8, x9, x10, x11, x12, x13, x14, x15, x16] := by
  obtain ⟨l⟩ := c
  match l, h with
  | [x0, x1, x2, x3, x4, x5, x6, x7, x8, x9, x10, x11, x12, x13, x14, x15, x16], _ => exact ⟨x0, x1, x2, x3, x4, x5, x6, x7, x8, x9, x10, x11, x12, x13, x14, x15, x16, rfl⟩
theorem i36 : (Try.prog.info? 29).map (·.size) = some 36 := by kernel_rfl
set_option maxRecDepth 100000 in
theorem built_s (l p : Nat) (S D : Array Value) (hS : S.size = 17) (hD : D.size = 17) : Try.prog.built 29 [(0, .int .i64 (l : Int)), (1, .int .u8 (p : Int)), (2, .agg S), (3, .agg D)] = some (scells l p S D) := by
  obtain ⟨x0, x1, x2, x3, x4, x5, x6, x7, x8, x9, x10, x11, x12, x13, x14, x15, x16, rfl⟩ := arr17 S hS
  obtain ⟨y0, y1, y2, y3, y4, y5, y6, y7, y8, y9, y10, y11, y12, y13, y14, y15, y16, rfl⟩ := arr17 D hD
  kernel_rfl

set_option maxRecDepth 100000 in
set_option maxHeartbeats 1000000 in
theorem read_no (v : Value) (zs : List Nat) (w : World) (hr : Rd w v (nus .u8 zs)) (hb : ∀ c ∈ zs, c < 256) (h : f6 zs ≠ 0) :
    Calls Try.prog 9 #[v] w fun e w' => e = .returned (.tuple #[.agg s0, .int .i64 (f6 zs : Nat)]) ∧ Below w.heap.size w w' := by
  have CF := Lib.hid (fun W (h : Rd W v (nus .u8 zs)) => fault_any v zs W h hb)
  have hlt := f6_lt zs
  have K := Lib.hid (Below.refl w.heap.size w)
  have HR := Lib.hid hr
  obtain ⟨a, cap, rfl, -, -⟩ := rd_shape hr
  have Y0 : Hid (s0.size = Array.size (#[Value.int .i64 0, .int .u8 0, .bool false, .int .u8 0, .int .u8 0, .int .u8 0, .int .u8 0, .int .u8 0, .int .u8 0, .int .u8 0, .int .u8 0, .int .u8 0, .int .u8 0, .int .u8 0, .int .u8 0, .int .u8 0, .int .u8 0, .int .u8 0, .int .u8 0, .bool false, .int .u8 0, .int .u8 0, .int .u8 0, .int .u8 0, .int .u8 0, .int .u8 0, .int .u8 0, .int .u8 0, .int .u8 0, .int .u8 0, .int .u8 0, .int .u8 0, .int .u8 0, .int .u8 0, .int .u8 0, .int .u8 0] : Array Value)) := s0_size
  have Z0 := Lib.hid (i36.trans (congrArg some s0_size.symm))
  have A0 := Lib.hid s0_all
  generalize f6 zs = r at *
  generalize zs.length = n at *
  have g0 : ((r : Int) != 0) = true := by simp; omega
  clear hr hb h
  go_enter Try.func9, Try.ntmps9
  have hal := (Below.refl w.heap.size w).alloc (Nat.le_refl _) (.cells #[Value.int .i64 0, .int .u8 0, .bool false, .int .u8 0, .int .u8 0, .int .u8 0, .int .u8 0, .int .u8 0, .int .u8 0, .int .u8 0, .int .u8 0, .int .u8 0, .int .u8 0, .int .u8 0, .int .u8 0, .int .u8 0, .int .u8 0, .int .u8 0, .int .u8 0, .bool false, .int .u8 0, .int .u8 0, .int .u8 0, .int .u8 0, .int .u8 0, .int .u8 0, .int .u8 0, .int .u8 0, .int .u8 0, .int .u8 0, .int .u8 0, .int .u8 0, .int .u8 0, .int .u8 0, .int .u8 0, .int .u8 0] 29)
  replace K := Lib.hid (K.out.trans (hal.mono K.out.size))
  replace HR := Lib.hid (HR.out.below hal)
  have HH := Lib.hid (Blk.new w 29 #[Value.int .i64 0, .int .u8 0, .bool false, .int .u8 0, .int .u8 0, .int .u8 0, .int .u8 0, .int .u8 0, .int .u8 0, .int .u8 0, .int .u8 0, .int .u8 0, .int .u8 0, .int .u8 0, .int .u8 0, .int .u8 0, .int .u8 0, .int .u8 0, .int .u8 0, .bool false, .int .u8 0, .int .u8 0, .int .u8 0, .int .u8 0, .int .u8 0, .int .u8 0, .int .u8 0, .int .u8 0, .int .u8 0, .int .u8 0, .int .u8 0, .int .u8 0, .int .u8 0, .int .u8 0, .int .u8 0, .int .u8 0])
  clear hal
  go_wp2_with fail
  generalize (w.alloc (.cells #[Value.int .i64 0, .int .u8 0, .bool false, .int .u8 0, .int .u8 0, .int .u8 0, .int .u8 0, .int .u8 0, .int .u8 0, .int .u8 0, .int .u8 0, .int .u8 0, .int .u8 0, .int .u8 0, .int .u8 0, .int .u8 0, .int .u8 0, .int .u8 0, .int .u8 0, .bool false, .int .u8 0, .int .u8 0, .int .u8 0, .int .u8 0, .int .u8 0, .int .u8 0, .int .u8 0, .int .u8 0, .int .u8 0, .int .u8 0, .int .u8 0, .int .u8 0, .int .u8 0, .int .u8 0, .int .u8 0, .int .u8 0] 29)) = V1 at *
  refine (CF.out _ HR.out).mono ?_
  rintro e V2 ⟨rfl, rfl⟩
  go_wp2_with (((with_reducible refine wpList_blk_store (op := ⟨none, .store 29 (.tmp 2) (.tmp 13), _, _, _, _⟩) ?sg1 29 (.tmp 2) (.tmp 13) ?so1 (w.heap.size) s0 ?sx1 ?sy1 HH.out Y0.out Z0.out A0.out ?_); (case sg1 => rfl); (case so1 => rfl); (case sx1 => rfl); (case sy1 => rfl)))
  intro V3 hA hF hB
  replace K := Lib.hid (K.out.trans (hB _ (by omega)))
  -- HR: not brought over
  replace HH := Lib.hid hA
  clear hA hF hB
  go_wp2
  have hrun := run_blk_load (P := Try.prog) 29 w.heap.size _ HH.out Try.underlying29 rfl Z0.out
  exact bodyPost_ret (results_cell_tmp 2 29 3 w.heap.size _ Try.results9 rfl hrun) rfl ⟨rfl, K.out⟩

set_option maxRecDepth 100000 in
set_option maxHeartbeats 1000000 in
theorem read_yes (v : Value) (zs : List Nat) (w : World) (hr : Rd w v (nus .u8 zs)) (hb : ∀ c ∈ zs, c < 256) (h : f6 zs = 0) :
    Calls Try.prog 9 #[v] w fun e w' => e = .returned (.tuple #[.agg (hd6 zs), .int .i64 0]) ∧ Below w.heap.size w w' := by
  obtain ⟨h40, -, -, -⟩ := f6_yes zs h
  have CF := Lib.hid (fun W (h : Rd W v (nus .u8 zs)) => fault_any v zs W h hb)
  rw [h] at CF
  have CL := Lib.hid (fun W (h : Rd W v (nus .u8 zs)) => plen_any v zs W h hb h40)
  have K := Lib.hid (Below.refl w.heap.size w)
  have HR := Lib.hid hr
  obtain ⟨a, cap, rfl, hlc, hlm⟩ := rd_shape hr
  obtain ⟨b, off, rfl, hce⟩ := hr.cells (by omega)
  have C6 := hce 6 (by omega)
  have hb0 := rd_cell C6
  have c6 := Lib.hid C6
  have HS := Lib.hid (hr.sub 8 16 (by omega))
  have HD := Lib.hid (hr.sub 24 16 (by omega))
  have l1 : ((zs.drop 8).take 16).length = 16 := by simp; omega
  have l2 : ((zs.drop 24).take 16).length = 16 := by simp; omega
  have C1 := Lib.hid (fun w' z (hw : Rd w' z (nus .u8 ((zs.drop 8).take 16))) => from_ok z true _ w' hw (.inr ⟨l1, rfl⟩))
  have C2 := Lib.hid (fun w' z (hw : Rd w' z (nus .u8 ((zs.drop 24).take 16))) => from_ok z true _ w' hw (.inr ⟨l2, rfl⟩))
  rw [l1, show (zs.drop 8).take 16 ++ List.replicate (16 - 16) 0 = (zs.drop 8).take 16 from by simp, show adr true ((zs.drop 8).take 16) = .agg (srcA zs) from rfl] at C1
  rw [l2, show (zs.drop 24).take 16 ++ List.replicate (16 - 16) 0 = (zs.drop 24).take 16 from by simp, show adr true ((zs.drop 24).take 16) = .agg (dstA zs) from rfl] at C2
  have hh : hd6 zs = scells (40 + u2 zs 4) (zs.getD 6 0) (srcA zs) (dstA zs) := by unfold hd6; rw [if_pos h]
  obtain ⟨sS, sD⟩ := ad_size zs h40
  have aS : (srcA zs).all (·.oneCell') = true := cellsA_all _ _
  have aD : (dstA zs).all (·.oneCell') = true := cellsA_all _ _
  rw [hh]
  generalize srcA zs = S at *
  generalize dstA zs = D at *
  generalize u2 zs 4 = l at *
  generalize zs.getD 6 0 = p at *
  have hbd := built_s (40 + l) p S D sS sD
  have hs := scells_size (40 + l) p S D sS sD
  have ha := scells_all (40 + l) p S D aS aD
  generalize scells (40 + l) p S D = H at *
  have HB := Lib.hid hbd
  have YS : Hid (S.size = Array.size (#[Value.bool false, .int .u8 0, .int .u8 0, .int .u8 0, .int .u8 0, .int .u8 0, .int .u8 0, .int .u8 0, .int .u8 0, .int .u8 0, .int .u8 0, .int .u8 0, .int .u8 0, .int .u8 0, .int .u8 0, .int .u8 0, .int .u8 0] : Array Value)) := sS
  have ZS := Lib.hid (i24.trans (congrArg some sS.symm))
  have AS := Lib.hid aS
  have YD : Hid (D.size = Array.size (#[Value.bool false, .int .u8 0, .int .u8 0, .int .u8 0, .int .u8 0, .int .u8 0, .int .u8 0, .int .u8 0, .int .u8 0, .int .u8 0, .int .u8 0, .int .u8 0, .int .u8 0, .int .u8 0, .int .u8 0, .int .u8 0, .int .u8 0] : Array Value)) := sD
  have ZD := Lib.hid (i24.trans (congrArg some sD.symm))
  have AD := Lib.hid aD
  have YH : Hid (H.size = Array.size (#[Value.int .i64 0, .int .u8 0, .bool false, .int .u8 0, .int .u8 0, .int .u8 0, .int .u8 0, .int .u8 0, .int .u8 0, .int .u8 0, .int .u8 0, .int .u8 0, .int .u8 0, .int .u8 0, .int .u8 0, .int .u8 0, .int .u8 0, .int .u8 0, .int .u8 0, .bool false, .int .u8 0, .int .u8 0, .int .u8 0, .int .u8 0, .int .u8 0, .int .u8 0, .int .u8 0, .int .u8 0, .int .u8 0, .int .u8 0, .int .u8 0, .int .u8 0, .int .u8 0, .int .u8 0, .int .u8 0, .int .u8 0] : Array Value)) := hs
  have ZH := Lib.hid (i36.trans (congrArg some hs.symm))
  have AH := Lib.hid ha
  unfold maxLen at hlm
  have h6n : (6 : Int) < (zs.length : Int) := by omega
  clear hr hb h hce sS sD aS aD hs ha hbd l1 l2 hh C6
  generalize zs.length = n at *
  go_enter Try.func9, Try.ntmps9
  have hal := (Below.refl w.heap.size w).alloc (Nat.le_refl _) (.cells #[Value.int .i64 0, .int .u8 0, .bool false, .int .u8 0, .int .u8 0, .int .u8 0, .int .u8 0, .int .u8 0, .int .u8 0, .int .u8 0, .int .u8 0, .int .u8 0, .int .u8 0, .int .u8 0, .int .u8 0, .int .u8 0, .int .u8 0, .int .u8 0, .int .u8 0, .bool false, .int .u8 0, .int .u8 0, .int .u8 0, .int .u8 0, .int .u8 0, .int .u8 0, .int .u8 0, .int .u8 0, .int .u8 0, .int .u8 0, .int .u8 0, .int .u8 0, .int .u8 0, .int .u8 0, .int .u8 0, .int .u8 0] 29)
  replace K := Lib.hid (K.out.trans (hal.mono K.out.size))
  replace HR := Lib.hid (HR.out.below hal)
  replace HS := Lib.hid (HS.out.below hal)
  replace HD := Lib.hid (HD.out.below hal)
  have HH := Lib.hid (Blk.new w 29 #[Value.int .i64 0, .int .u8 0, .bool false, .int .u8 0, .int .u8 0, .int .u8 0, .int .u8 0, .int .u8 0, .int .u8 0, .int .u8 0, .int .u8 0, .int .u8 0, .int .u8 0, .int .u8 0, .int .u8 0, .int .u8 0, .int .u8 0, .int .u8 0, .int .u8 0, .bool false, .int .u8 0, .int .u8 0, .int .u8 0, .int .u8 0, .int .u8 0, .int .u8 0, .int .u8 0, .int .u8 0, .int .u8 0, .int .u8 0, .int .u8 0, .int .u8 0, .int .u8 0, .int .u8 0, .int .u8 0, .int .u8 0])
  clear hal
  go_wp2_with fail
  generalize (w.alloc (.cells #[Value.int .i64 0, .int .u8 0, .bool false, .int .u8 0, .int .u8 0, .int .u8 0, .int .u8 0, .int .u8 0, .int .u8 0, .int .u8 0, .int .u8 0, .int .u8 0, .int .u8 0, .int .u8 0, .int .u8 0, .int .u8 0, .int .u8 0, .int .u8 0, .int .u8 0, .bool false, .int .u8 0, .int .u8 0, .int .u8 0, .int .u8 0, .int .u8 0, .int .u8 0, .int .u8 0, .int .u8 0, .int .u8 0, .int .u8 0, .int .u8 0, .int .u8 0, .int .u8 0, .int .u8 0, .int .u8 0, .int .u8 0] 29)) = V1 at *
  refine (CF.out _ HR.out).mono ?_
  rintro e V2 ⟨rfl, rfl⟩
  go_wp2_with fail
  refine (C1.out _ _ HS.out).mono ?_
  rintro e V3 ⟨rfl, hy⟩
  replace K := Lib.hid (K.out.trans (hy.mono K.out.size))
  replace HR := Lib.hid (HR.out.below hy)
  replace HS := Lib.hid (HS.out.below hy)
  replace HD := Lib.hid (HD.out.below hy)
  replace HH := Lib.hid (HH.out.below hy HH.out.lt)
  clear hy
  go_wp2_with (((with_reducible refine wpList_blk_store (op := ⟨none, .store 25 (.tmp 5) (.tmp 19), _, _, _, _⟩) ?sg2 25 (.tmp 5) (.tmp 19) ?so2 (V3.heap.size) S ?sx2 ?sy2 (Blk.new V3 25 #[Value.bool false, .int .u8 0, .int .u8 0, .int .u8 0, .int .u8 0, .int .u8 0, .int .u8 0, .int .u8 0, .int .u8 0, .int .u8 0, .int .u8 0, .int .u8 0, .int .u8 0, .int .u8 0, .int .u8 0, .int .u8 0, .int .u8 0]) YS.out ZS.out AS.out ?_); (case sg2 => rfl); (case so2 => rfl); (case sx2 => rfl); (case sy2 => rfl)))
  have qHHNS : w.heap.size < V3.heap.size := HH.out.lt
  intro V4 hA hF hB
  have hy := ((Below.refl V3.heap.size V3).alloc (Nat.le_refl _) (.cells #[Value.bool false, .int .u8 0, .int .u8 0, .int .u8 0, .int .u8 0, .int .u8 0, .int .u8 0, .int .u8 0, .int .u8 0, .int .u8 0, .int .u8 0, .int .u8 0, .int .u8 0, .int .u8 0, .int .u8 0, .int .u8 0, .int .u8 0] 25)).trans (hB _ (Nat.le_refl _))
  replace K := Lib.hid (K.out.trans (hy.mono K.out.size))
  replace HR := Lib.hid (HR.out.below hy)
  replace HS := Lib.hid (HS.out.below hy)
  replace HD := Lib.hid (HD.out.below hy)
  replace HH := Lib.hid (HH.out.below hy HH.out.lt)
  have NS := Lib.hid hA
  clear hA hF hB hy
  go_wp2_with fail
  refine (C2.out _ _ HD.out).mono ?_
  rintro e V5 ⟨rfl, hy⟩
  replace K := Lib.hid (K.out.trans (hy.mono K.out.size))
  replace HR := Lib.hid (HR.out.below hy)
  replace HS := Lib.hid (HS.out.below hy)
  replace HD := Lib.hid (HD.out.below hy)
  replace HH := Lib.hid (HH.out.below hy HH.out.lt)
  replace NS := Lib.hid (NS.out.below hy NS.out.lt)
  clear hy
  go_wp2_with (((with_reducible refine wpList_blk_store (op := ⟨none, .store 25 (.tmp 7) (.tmp 25), _, _, _, _⟩) ?sg3 25 (.tmp 7) (.tmp 25) ?so3 (V5.heap.size) D ?sx3 ?sy3 (Blk.new V5 25 #[Value.bool false, .int .u8 0, .int .u8 0, .int .u8 0, .int .u8 0, .int .u8 0, .int .u8 0, .int .u8 0, .int .u8 0, .int .u8 0, .int .u8 0, .int .u8 0, .int .u8 0, .int .u8 0, .int .u8 0, .int .u8 0, .int .u8 0]) YD.out ZD.out AD.out ?_); (case sg3 => rfl); (case so3 => rfl); (case sx3 => rfl); (case sy3 => rfl)))
  have qHHND : w.heap.size < V5.heap.size := HH.out.lt
  have qNSND : V3.heap.size < V5.heap.size := NS.out.lt
  intro V6 hA hF hB
  have hy := ((Below.refl V5.heap.size V5).alloc (Nat.le_refl _) (.cells #[Value.bool false, .int .u8 0, .int .u8 0, .int .u8 0, .int .u8 0, .int .u8 0, .int .u8 0, .int .u8 0, .int .u8 0, .int .u8 0, .int .u8 0, .int .u8 0, .int .u8 0, .int .u8 0, .int .u8 0, .int .u8 0, .int .u8 0] 25)).trans (hB _ (Nat.le_refl _))
  replace K := Lib.hid (K.out.trans (hy.mono K.out.size))
  replace HR := Lib.hid (HR.out.below hy)
  replace HS := Lib.hid (HS.out.below hy)
  replace HD := Lib.hid (HD.out.below hy)
  replace HH := Lib.hid (HH.out.below hy HH.out.lt)
  replace NS := Lib.hid (NS.out.below hy NS.out.lt)
  have ND := Lib.hid hA
  clear hA hF hB hy
  go_wp2_with fail
  refine wp_region_still_tail 8 (by kernel_rfl) (by kernel_rfl) ?_
  change wpStill _ _ V6.drew (fun a' => wpList _ _ _ _ a' V6.drew) _ _
  have hy := (Below.refl V6.heap.size V6).drew
  replace K := Lib.hid (K.out.trans (hy.mono K.out.size))
  replace HR := Lib.hid (HR.out.below hy)
  replace HS := Lib.hid (HS.out.below hy)
  replace HD := Lib.hid (HD.out.below hy)
  replace HH := Lib.hid (HH.out.below hy HH.out.lt)
  replace NS := Lib.hid (NS.out.below hy NS.out.lt)
  replace ND := Lib.hid (ND.out.below hy ND.out.lt)
  clear hy
  generalize V6.drew = V7 at *
  have c6 := (K.out.cell (p := ⟨b, off + 6, none⟩) hb0).trans c6.out
  simp only [List.take_succ_cons, List.take_zero, List.drop_succ_cons, List.drop_zero]
  still_step
  still_call ((CL.out _ HR.out).mono fun e w' h => ⟨h.1, h.2.symm⟩)
  still_step
  still_step
  still_step
  refine wpStill_step (fun K hK => ?_)
  rw [if_pos (by rfl)]
  refine still_load 25 (.tmp 5) rfl _ rfl (.agg S) (run_blk_load (P := Try.prog) 25 (V3.heap.size) _ NS.out Try.underlying25 rfl ZS.out) (hK _ ?_)
  clear hK K
  refine wpStill_step (fun K hK => ?_)
  rw [if_pos (by rfl)]
  refine still_load 25 (.tmp 7) rfl _ rfl (.agg D) (run_blk_load (P := Try.prog) 25 (V5.heap.size) _ ND.out Try.underlying25 rfl ZD.out) (hK _ ?_)
  clear hK K
  refine wpStill_step (fun K hK => ?_)
  rw [if_pos (by rfl)]
  refine still_build2 29 _ rfl #[(0, .int .i64 ((40 + l : Nat) : Int)), (1, .int .u8 (p : Int)), (2, .agg S), (3, .agg D)] (by kernel_rfl) H HB.out (hK _ ?_)
  clear hK K
  refine wpStill_nil ?_
  simp only [Act.put, List.setIfInBounds_toArray, List.set_cons_zero, List.set_cons_succ]
  go_wp2_with (((with_reducible refine wpList_blk_store (op := ⟨none, .store 29 (.tmp 2) (.tmp 34), _, _, _, _⟩) ?sg4 29 (.tmp 2) (.tmp 34) ?so4 (w.heap.size) H ?sx4 ?sy4 HH.out YH.out ZH.out AH.out ?_); (case sg4 => rfl); (case so4 => rfl); (case sx4 => rfl); (case sy4 => rfl)))
  intro V8 hA hF hB
  replace K := Lib.hid (K.out.trans (hB _ (by omega)))
  -- HR: not brought over
  -- HS: not brought over
  -- HD: not brought over
  replace NS := Lib.hid ((hF _ (by omega)).trans NS.out)
  replace ND := Lib.hid ((hF _ (by omega)).trans ND.out)
  replace HH := Lib.hid hA
  clear hA hF hB
  go_wp2
  have hrun := run_blk_load (P := Try.prog) 29 w.heap.size _ HH.out Try.underlying29 rfl ZH.out
  exact bodyPost_ret (results_cell_tmp 2 29 3 w.heap.size _ Try.results9 rfl hrun) rfl ⟨rfl, K.out⟩
theorem read_any (v : Value) (zs : List Nat) (w : World) (hr : Rd w v (nus .u8 zs)) (hb : ∀ c ∈ zs, c < 256) :
    Calls Try.prog 9 #[v] w fun e w' => e = .returned (.tuple #[.agg (hd6 zs), .int .i64 (f6 zs : Nat)]) ∧ Below w.heap.size w w' := by
  by_cases h : f6 zs = 0
  · have := read_yes v zs w hr hb h
    rw [h]; exact this
  · have := read_no v zs w hr hb h
    have e : hd6 zs = s0 := by unfold hd6; rw [if_neg h]
    rw [e]; exact this
end Go.Proofs.Ytnfanenaighflaa

/- bytes.Clone of a row that is there; rows of the call's own. -/
namespace Go.Proofs.Ytnfanenaighflaa
open Go.RowKit

theorem cellsA_head (v : Bool) (bs : List Nat) : (cellsA v bs)[0]? = some (.bool v) := by simp [cellsA]
theorem own_at {w : World} {base n : Nat} {e : TypeId} {v : Value} {xs : List Value} (h : w.ownsRow base e 1 v n xs) (h0 : 0 < n) : ∃ g cap, v = .slice (some ⟨g, 0, none⟩) n cap ∧ n ≤ cap ∧ cap ≤ maxLen ∧ base ≤ g ∧ g < w.heap.size := by
  rcases h.2 with ⟨-, h1⟩ | ⟨g, cap, cur, rfl, hg, h2, hnc, hcm, _⟩
  · omega
  · exact ⟨g, cap, rfl, hnc, hcm, hg, (Array.getElem?_eq_some_iff.1 h2).1⟩
theorem clone_any (p : Addr) (cap : Nat) (zs : List Nat) (w : World) (hr : Rd w (.slice (some p) zs.length cap) (nus .u8 zs)) (hz : zs.length ≤ 140737488355328) (h0 : 0 < zs.length) :
    Calls Try.prog 26 #[.slice (some p) zs.length cap] w fun e w' => ∃ x, e = .returned x ∧ w'.ownsRow w.heap.size 5 1 x zs.length (nus .u8 zs) ∧ Below w.heap.size w w' := by
  obtain ⟨b, off, e, hc⟩ := hr.cells h0
  cases e
  have h := Try.bytes_Clone_at ⟨b, off, none⟩ zs.length cap (zs.map fun n : Nat => (n : Int)) w (by simp) hz (fun i hi => by
    rw [Addr.add_lit, hc i hi]
    simp [List.getD_eq_getElem?_getD, List.getElem?_eq_getElem hi])
  refine h.mono ?_
  rintro e w' ⟨v, rfl, ho, -, hb⟩
  exact ⟨v, rfl, by simpa [nus, Function.comp_def] using ho, hb⟩
end Go.Proofs.Ytnfanenaighflaa

/- A number as bytes, the high one first, put into a row. Nothing of the program. -/
namespace Go.Proofs.Ytnfanenaighflaa
open Go.RowKit

/-- The bytes of a number, the high one first, so many. -/
def bg : Nat → Nat → List Nat
  | 0, _ => []
  | n + 1, v => bg n (v / 256) ++ [v % 256]
theorem bg_length : ∀ n v, (bg n v).length = n
  | 0, _ => rfl
  | n + 1, v => by simp [bg, bg_length n]
theorem bg_get : ∀ n v j, j < n → (bg n v).getD j 0 = v / 256 ^ (n - 1 - j) % 256
  | 0, _, _, h => by omega
  | n + 1, v, j, h => by
    by_cases e : j = n
    · subst e
      simp [bg, List.getD_eq_getElem?_getD, bg_length]
    · have ih := bg_get n (v / 256) j (by omega)
      simp only [bg, List.getD_eq_getElem?_getD] at ih ⊢
      rw [List.getElem?_append_left (by rw [bg_length]; omega), ih, Nat.div_div_eq_div_mul]
      rw [show n + 1 - 1 - j = (n - 1 - j) + 1 from by omega, Nat.pow_succ, Nat.mul_comm]
theorem bg_lt : ∀ n v, ∀ c ∈ bg n v, c < 256
  | 0, _, c, h => by simp [bg] at h
  | n + 1, v, c, h => by
    simp only [bg, List.mem_append, List.mem_singleton] at h
    rcases h with h | rfl
    · exact bg_lt n _ c h
    · omega
theorem bg_take (n v j : Nat) (h : j < n) : (bg n v).take (j + 1) = (bg n v).take j ++ [v / 256 ^ (n - 1 - j) % 256] := by
  rw [List.take_succ_eq_append_getElem (by rw [bg_length]; exact h), ← bg_get n v j h]
  simp [List.getD_eq_getElem?_getD, List.getElem?_eq_getElem (show j < (bg n v).length by rw [bg_length]; exact h)]
theorem bg_be : ∀ (l : List Nat), (∀ c ∈ l, c < 256) → ∀ n, n = l.length → bg n (be l) = l := by
  intro l h n hn
  subst hn
  induction hl : l.length generalizing l with
  | zero => rw [List.eq_nil_of_length_eq_zero hl]; rfl
  | succ n ih =>
    have hne : l ≠ [] := by intro e; simp [e] at hl
    have e := List.dropLast_concat_getLast hne
    rw [← e, be_snoc]
    have hc := h (l.getLast hne) (List.getLast_mem hne)
    have := ih l.dropLast (fun c hc => h c (List.dropLast_subset l hc)) (by simp [hl])
    simp only [bg]
    rw [show (be l.dropLast * 256 + l.getLast hne) / 256 = be l.dropLast by omega, this]
    congr 2
    omega

theorem bg_cons : ∀ j v, bg (j + 1) v = (v / 256 ^ j % 256) :: bg j v
  | 0, v => by simp [bg]
  | j + 1, v => by
    rw [bg, bg_cons j (v / 256), bg]
    simp only [List.cons_append, Nat.div_div_eq_div_mul]
    rw [Nat.pow_succ, Nat.mul_comm 256]
/-- The row after so many rounds. -/
def putRow (zs : List Nat) (k n v j : Nat) : List Nat := zs.take (k + n - j) ++ (bg j v ++ zs.drop (k + n))
theorem putRow_length (zs : List Nat) (k n v j : Nat) (h : k + n ≤ zs.length) (hj : j ≤ n) : (putRow zs k n v j).length = zs.length := by
  simp [putRow, bg_length]; omega
theorem putRow_zero (zs : List Nat) (k n v : Nat) : putRow zs k n v 0 = zs := by simp [putRow, bg]
theorem putRow_step (zs : List Nat) (k n v j : Nat) (h : k + n ≤ zs.length) (hj : j < n) : (putRow zs k n v j).set (k + n - 1 - j) (v / 256 ^ j % 256) = putRow zs k n v (j + 1) := by
  unfold putRow
  rw [bg_cons]
  rw [show k + n - j = (k + n - (j + 1)) + 1 from by omega, List.take_succ_eq_append_getElem (by omega), show k + n - 1 - j = k + n - (j + 1) from by omega]
  rw [List.append_assoc, List.set_append_right _ _ (by simp; omega)]
  simp
  rw [show k + n - (j + 1) - min (k + n - (j + 1)) zs.length = 0 from by omega]
  rfl
theorem nus_set (k : IntKind) (zs : List Nat) (i n : Nat) : (nus k zs).set i (.int k (n : Int)) = nus k (zs.set i n) := by simp [nus, List.map_set]
theorem grownBy_trans {a b c : World} {r : Option Nat} (h : a.grownBy b r) (g : b.grownBy c r) : a.grownBy c r :=
  ⟨g.os.trans h.os, g.tape.trans h.tape, g.output.trans h.output, Nat.le_trans h.size g.size, fun k hk hr => (g.block k (Nat.lt_of_lt_of_le hk h.size) hr).trans (h.block k hk hr)⟩
theorem putRow_app (zs : List Nat) (n v len : Nat) (h : len = zs.length) : putRow (zs ++ List.replicate n 0) len n v n = zs ++ bg n v := by
  subst h
  simp [putRow]
end Go.Proofs.Ytnfanenaighflaa

/- Plain facts on sums that go round, and on checksums that are changed. Nothing of the program. -/
namespace Go.Proofs.Ytnfanenaighflaa
open Go.RowKit

/-- What a number comes to, where what is beyond 16 binary digits is added to the low ones until none is. -/
def gr (u : Nat) : Nat := if u = 0 then 0 else (u - 1) % 65535 + 1
theorem gr_small (u : Nat) (h : u ≤ 65535) : gr u = u := by unfold gr; split <;> omega
theorem gr_le (u : Nat) : gr u ≤ 65535 := by unfold gr; split <;> omega
theorem gr_step (u : Nat) (h : 65535 < u) : gr (u / 65536 + u % 65536) = gr u := by
  unfold gr
  rw [if_neg (by omega), if_neg (by omega)]
  omega
theorem gr_mod (u : Nat) : gr u % 65535 = u % 65535 := by unfold gr; split <;> omega
theorem gr_zero (u : Nat) : gr u = 0 ↔ u = 0 := by unfold gr; split <;> omega
theorem gr_eq (a b : Nat) (h : a % 65535 = b % 65535) (h0 : a = 0 ↔ b = 0) : gr a = gr b := by
  unfold gr
  by_cases ha : a = 0
  · have hb := h0.1 ha
    rw [if_pos ha, if_pos hb]
  · have hb : ¬ b = 0 := fun e => ha (h0.2 e)
    rw [if_neg ha, if_neg hb]
    omega
theorem gr_add (a b : Nat) : gr (gr a + b) = gr (a + b) := by
  have h1 := gr_mod a
  have h2 := gr_zero a
  exact gr_eq _ _ (by omega) (by omega)
theorem gr_lt (u v : Nat) (h : gr v = gr u) (hv : v ≤ 65535) : v = gr u := by rw [← h, gr_small v hv]

/-- What a place weighs: the high byte of a word, or the low one. -/
def wt (p : Nat) : Nat := if p % 2 = 0 then 256 else 1
/-- The sum of a row's words, its first byte at place p. -/
def wsp : Nat → List Nat → Nat
  | _, [] => 0
  | p, x :: r => x * wt p + wsp (p + 1) r
theorem wt_eq (p q : Nat) (h : p % 2 = q % 2) : wt p = wt q := by unfold wt; rw [h]
theorem wt_even (p : Nat) (h : p % 2 = 0) : wt p = 256 := by unfold wt; rw [if_pos h]
theorem wt_odd (p : Nat) (h : p % 2 = 1) : wt p = 1 := by unfold wt; rw [if_neg (by omega)]
theorem wsp_eq : ∀ (l : List Nat) (p q : Nat), p % 2 = q % 2 → wsp p l = wsp q l
  | [], _, _, _ => rfl
  | x :: r, p, q, h => by
    have := wsp_eq r (p + 1) (q + 1) (by omega)
    simp only [wsp]
    rw [wt_eq p q h, this]
theorem wsp_append : ∀ (a b : List Nat) (p : Nat), wsp p (a ++ b) = wsp p a + wsp (p + a.length) b
  | [], b, p => by simp [wsp]
  | x :: r, b, p => by
    have := wsp_append r b (p + 1)
    simp only [wsp, List.cons_append, List.length_cons]
    rw [this, show p + 1 + r.length = p + (r.length + 1) from by omega, Nat.add_assoc]
theorem wsp_zeros : ∀ (n p : Nat), wsp p (List.replicate n 0) = 0
  | 0, _ => rfl
  | n + 1, p => by simp only [List.replicate_succ, wsp, wsp_zeros n (p + 1), Nat.zero_mul]
theorem wsp_le : ∀ (l : List Nat) (p : Nat), (∀ c ∈ l, c < 256) → wsp p l ≤ 65280 * l.length
  | [], _, _ => by simp [wsp]
  | x :: r, p, h => by
    have h1 := wsp_le r (p + 1) (fun c hc => h c (by simp [hc]))
    have h2 := h x (by simp)
    simp only [wsp, List.length_cons]
    rcases (show wt p = 256 ∨ wt p = 1 from by unfold wt; split <;> simp) with e | e <;> rw [e] <;> omega
theorem wsp_set : ∀ (l : List Nat) (p i v : Nat), i < l.length → wsp p (l.set i v) + l.getD i 0 * wt (p + i) = wsp p l + v * wt (p + i)
  | [], _, _, _, h => by simp at h
  | x :: r, p, 0, v, _ => by simp only [List.set_cons_zero, wsp, List.getD_cons_zero, Nat.add_zero]; omega
  | x :: r, p, i + 1, v, h => by
    have := wsp_set r (p + 1) i v (by simpa using h)
    simp only [List.set_cons_succ, wsp, List.getD_cons_succ]
    rw [show p + 1 + i = p + (i + 1) from by omega] at this
    omega

/-- The word behind so many words. -/
def w2 (E : List Nat) (j : Nat) : Nat := E.getD (2 * j) 0 * 256 + E.getD (2 * j + 1) 0
theorem be_two (E : List Nat) (k : Nat) (h : k + 2 ≤ E.length) : be ((E.drop k).take 2) = E.getD k 0 * 256 + E.getD (k + 1) 0 := by
  rw [be_step E k 1 (by omega), be_step E k 0 (by omega)]
  simp [be]
theorem w2_lt (E : List Nat) (j : Nat) (h : ∀ c ∈ E, c < 256) : w2 E j < 65536 := by
  have h1 := getD_lt E h (2 * j)
  have h2 := getD_lt E h (2 * j + 1)
  unfold w2
  omega
theorem take_snoc (E : List Nat) (k : Nat) (h : k < E.length) : E.take (k + 1) = E.take k ++ [E.getD k 0] := by
  rw [List.take_succ_eq_append_getElem h]
  simp [List.getD_eq_getElem?_getD, List.getElem?_eq_getElem h]
theorem wsp_take_one (E : List Nat) (k : Nat) (h : k < E.length) : wsp 0 (E.take (k + 1)) = wsp 0 (E.take k) + E.getD k 0 * wt k := by
  rw [take_snoc E k h, wsp_append]
  simp [wsp, Nat.min_eq_left (Nat.le_of_lt h)]
/-- Word by word. -/
theorem wsp_two (E : List Nat) (j : Nat) (h : 2 * j < E.length) : wsp 0 (E.take (2 * (j + 1))) = wsp 0 (E.take (2 * j)) + w2 E j := by
  have h1 := wsp_take_one E (2 * j) h
  rw [wt_even _ (by omega)] at h1
  unfold w2
  by_cases h2 : 2 * j + 1 < E.length
  · have h3 := wsp_take_one E (2 * j + 1) h2
    rw [wt_odd _ (by omega)] at h3
    rw [show 2 * (j + 1) = 2 * j + 1 + 1 from by omega, h3, h1]
    omega
  · have e : E.getD (2 * j + 1) 0 = 0 := by rw [List.getD_eq_getElem?_getD, List.getElem?_eq_none (by omega)]; rfl
    have e2 : E.take (2 * (j + 1)) = E.take (2 * j + 1) := by rw [List.take_of_length_le (by omega), List.take_of_length_le (by omega)]
    rw [e2, h1, e]
    omega
theorem wsp_take_lt (E : List Nat) (k : Nat) (h : ∀ c ∈ E, c < 256) : wsp 0 (E.take k) ≤ 65280 * E.length := by
  have h1 := wsp_le (E.take k) 0 (fun c hc => h c (List.mem_of_mem_take hc))
  have h2 := List.length_take_le' k E
  omega

/-- A checksum where one word is another one. -/
def upd (old f t : Nat) : Nat := 65535 - gr ((65535 - old) + (65535 - f) + t)
theorem upd_le (old f t : Nat) : upd old f t ≤ 65535 := by unfold upd; omega
theorem upd_mod (old f t : Nat) (ho : old ≤ 65535) (hf : f ≤ 65535) : (upd old f t + t) % 65535 = (old + f) % 65535 := by
  have h1 := gr_mod ((65535 - old) + (65535 - f) + t)
  have h2 := gr_le ((65535 - old) + (65535 - f) + t)
  unfold upd
  omega
/-- A checksum where so many words are others. -/
def chg (old : Nat) (F T : List Nat) : Nat → Nat
  | 0 => old
  | k + 1 => upd (chg old F T k) (w2 F k) (w2 T k)
theorem chg_le (old : Nat) (F T : List Nat) (h : old ≤ 65535) : ∀ k, chg old F T k ≤ 65535
  | 0 => h
  | _ + 1 => upd_le _ _ _
theorem chg_mod (old : Nat) (F T : List Nat) (h : old ≤ 65535) (hF : ∀ c ∈ F, c < 256) : ∀ k, 2 * k ≤ F.length → 2 * k ≤ T.length →
    (chg old F T k + wsp 0 (T.take (2 * k))) % 65535 = (old + wsp 0 (F.take (2 * k))) % 65535
  | 0, _, _ => by simp [chg, wsp]
  | k + 1, h1, h2 => by
    have hi := chg_mod old F T h hF k (by omega) (by omega)
    have hu := upd_mod (chg old F T k) (w2 F k) (w2 T k) (chg_le old F T h k) (by have := w2_lt F k hF; omega)
    rw [wsp_two F k (by omega), wsp_two T k (by omega)]
    simp only [chg]
    omega
/-- A row's checksum. -/
def ck (b : List Nat) : Nat := 65535 - gr (wsp 0 b)
theorem ck_le (b : List Nat) : ck b ≤ 65535 := by unfold ck; omega
theorem ck_mod (b : List Nat) : (ck b + wsp 0 b) % 65535 = 0 := by
  have h1 := gr_mod (wsp 0 b)
  have h2 := gr_le (wsp 0 b)
  unfold ck
  omega

end Go.Proofs.Ytnfanenaighflaa

/- A row in which another one is written over a part. Nothing of the program. -/
namespace Go.Proofs.Ytnfanenaighflaa
open Go.RowKit

/-- B, where T stands from place k on. -/
def ov (B T : List Nat) (k : Nat) : List Nat := B.take k ++ (T ++ B.drop (k + T.length))
theorem ov_length (B T : List Nat) (k : Nat) (h : k + T.length ≤ B.length) : (ov B T k).length = B.length := by simp [ov]; omega
theorem ov_lt (B T : List Nat) (k : Nat) (hB : ∀ c ∈ B, c < 256) (hT : ∀ c ∈ T, c < 256) : ∀ c ∈ ov B T k, c < 256 := by
  intro c hc
  rcases List.mem_append.1 hc with h | h
  · exact hB c (List.mem_of_mem_take h)
  · rcases List.mem_append.1 h with h | h
    · exact hT c h
    · exact hB c (List.mem_of_mem_drop h)
theorem put_ov (zs : List Nat) (k v : Nat) : putRow zs k 2 v 2 = ov zs (bg 2 v) k := by
  unfold putRow ov
  rw [bg_length, Nat.add_sub_cancel]
theorem ov_get (B T : List Nat) (k i : Nat) (h : k + T.length ≤ B.length) : (ov B T k).getD i 0 = if k ≤ i ∧ i < k + T.length then T.getD (i - k) 0 else B.getD i 0 := by
  have hl : (B.take k).length = k := by simp; omega
  unfold ov
  simp only [List.getD_eq_getElem?_getD]
  by_cases h1 : i < k
  · rw [if_neg (by omega), List.getElem?_append_left (by omega), List.getElem?_take_of_lt h1]
  · rw [List.getElem?_append_right (by omega), hl]
    by_cases h2 : i < k + T.length
    · rw [if_pos (by omega), List.getElem?_append_left (by omega)]
    · rw [if_neg (by omega), List.getElem?_append_right (by omega), List.getElem?_drop]
      congr 2; omega
theorem ov_get_off (B T : List Nat) (k i : Nat) (h : k + T.length ≤ B.length) (hi : i < k ∨ k + T.length ≤ i) : (ov B T k).getD i 0 = B.getD i 0 := by
  rw [ov_get B T k i h, if_neg (by omega)]
theorem ov_u2_off (B T : List Nat) (k i : Nat) (h : k + T.length ≤ B.length) (hi : i + 2 ≤ k ∨ k + T.length ≤ i) : u2 (ov B T k) i = u2 B i := by
  unfold u2
  rw [ov_get_off B T k i h (by omega), ov_get_off B T k (i + 1) h (by omega)]
theorem ov_take (B T : List Nat) (k n : Nat) (h : k + T.length ≤ n) (_hn : n ≤ B.length) : (ov B T k).take n = ov (B.take n) T k := by
  unfold ov
  rw [List.take_append, List.take_append, List.take_take, List.take_take, Nat.min_comm n k, List.drop_take]
  have hl : (B.take k).length = k := by simp; omega
  rw [hl, List.take_of_length_le (l := T) (by omega)]
  congr 2
  · congr 1; omega
theorem ov_take_off (B T : List Nat) (k n : Nat) (h : n ≤ k) (hk : k + T.length ≤ B.length) : (ov B T k).take n = B.take n := by
  unfold ov
  rw [List.take_append_of_le_length (by simp; omega), List.take_take, Nat.min_eq_left h]
theorem ov_drop_off (B T : List Nat) (k n : Nat) (h : k + T.length ≤ n) (hk : k + T.length ≤ B.length) : (ov B T k).drop n = B.drop n := by
  have hl : (B.take k).length = k := by simp; omega
  unfold ov
  rw [List.drop_append, List.drop_append, List.drop_drop, hl, List.drop_eq_nil_of_le (by omega), List.drop_eq_nil_of_le (by omega)]
  simp only [List.nil_append]
  congr 1; omega
theorem ov_mid (B T : List Nat) (k : Nat) (hk : k + T.length ≤ B.length) : ((ov B T k).drop k).take T.length = T := by
  have hl : (B.take k).length = k := by simp; omega
  unfold ov
  rw [List.drop_append_of_le_length (by omega), List.drop_eq_nil_of_le (by omega), List.nil_append, List.take_append_of_le_length (Nat.le_refl _), List.take_length]
theorem mid_off (B T : List Nat) (k j m : Nat) (hk : k + T.length ≤ B.length) (h : j + m ≤ k ∨ k + T.length ≤ j) : ((ov B T k).drop j).take m = (B.drop j).take m := by
  rcases h with h | h
  · rw [List.take_drop, List.take_drop, ov_take_off B T k _ (by omega) hk]
  · rw [ov_drop_off B T k j h hk]
/-- The sum of the words where others stand. -/
theorem ov_wsp (B T : List Nat) (k : Nat) (hk : k % 2 = 0) (h : k + T.length ≤ B.length) (hT : T.length % 2 = 0) :
    wsp 0 (ov B T k) + wsp 0 ((B.drop k).take T.length) = wsp 0 B + wsp 0 T := by
  have hl : (B.take k).length = k := by simp; omega
  have hl2 : ((B.drop k).take T.length).length = T.length := by simp; omega
  have hB : B = B.take k ++ ((B.drop k).take T.length ++ B.drop (k + T.length)) := by rw [← List.drop_drop, List.take_append_drop, List.take_append_drop]
  have h4 : wsp 0 B = wsp 0 (B.take k) + (wsp 0 ((B.drop k).take T.length) + wsp 0 (B.drop (k + T.length))) := by
    conv => lhs; rw [hB]
    rw [wsp_append, wsp_append, hl, hl2, wsp_eq _ (0 + k) 0 (by omega), wsp_eq _ (0 + k + T.length) 0 (by omega)]
  rw [h4]
  unfold ov
  rw [wsp_append, wsp_append, hl, wsp_eq T (0 + k) 0 (by omega), wsp_eq _ (0 + k + T.length) 0 (by omega)]
  omega
theorem wsp_bg (v : Nat) (h : v < 65536) : wsp 0 (bg 2 v) = v := by
  simp only [bg, wsp, List.nil_append, List.cons_append, Nat.zero_add]
  rw [wt_even 0 rfl, wt_odd 1 rfl]
  omega
theorem wsp_two_at (B : List Nat) (k : Nat) (h : k + 2 ≤ B.length) : wsp 0 ((B.drop k).take 2) = u2 B k := by
  have e : (B.drop k).take 2 = [B.getD k 0, B.getD (k + 1) 0] := by
    refine ext_getD _ _ 0 (by simp; omega) fun i hi => ?_
    have hi2 : i = 0 ∨ i = 1 := by simp at hi; omega
    rcases hi2 with rfl | rfl <;> simp [List.getD_eq_getElem?_getD]
  rw [e]
  simp only [wsp]
  rw [wt_even 0 rfl, wt_odd (0 + 1) rfl]
  unfold u2; omega
end Go.Proofs.Ytnfanenaighflaa

/- A byte, as the program has it; a new row of them. -/
namespace Go.Proofs.Ytnfanenaighflaa
open Go.RowKit

theorem Try.info5 : (Try.prog.info? 5).map (fun i => (i.zero, i.size, i.bytes)) = some (some (.int .u8 0), 1, 1) := by kernel_rfl
theorem Try.size5 : (Try.prog.info? 5).map (·.size) = some 1 := by kernel_rfl
theorem size_made (n : Nat) : (madeCells #[Value.int .u8 0] n).toList.length = n := by rw [toList_madeCells_one]; simp
theorem splice_made (zs : List Nat) (n len : Nat) (h : len = zs.length) : splice (madeCells #[Value.int .u8 0] (len + n)).toList 0 (nus .u8 zs) = nus .u8 (zs ++ List.replicate n 0) := by
  rw [toList_madeCells_one, nus_append]
  subst h
  simp [splice, nus]
end Go.Proofs.Ytnfanenaighflaa

