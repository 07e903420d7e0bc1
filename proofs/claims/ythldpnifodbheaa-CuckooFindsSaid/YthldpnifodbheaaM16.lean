/- Texts that the walks of this seat lean on, put together. -/
import Derived.Test.YthldpnifodbheaaTk
import Derived.Test.YthldpnifodbheaaTl
import Derived.Test.YthldpnifodbheaaM13
import Derived.Test.YthldpnifodbheaaM14
import Derived.Test.YthldpnifodbheaaM15
namespace Go.Proofs.Ythldpnifodbheaa
open Go.RowKit
structure Cf where
  st : Int
  sz : Int
  dg : Int
  bl : Int
  hs : Int
  sl : Int
  vs : Int
  qu : Int
  ev : Int
  id : Int
  li : Int
  fa : Int
  en : Bool
  ov : Bool
  O : List Nat
  xv : Bool
  X : List Nat
  sd : Nat
structure Cf.Fit (c : Cf) : Prop where
  lO : c.O.length = 16
  lX : c.X.length = 16
  bO : ∀ n ∈ c.O, n < 256
  bX : ∀ n ∈ c.X, n < 256
  sd : c.sd < 4294967296
def ccells (st sz dg bl hs sl vs qu ev id li fa : Int) (en : Bool) (S D : Array Value) (sd : Nat) : Array Value :=
  (#[.int .i64 st, .int .i64 sz, .int .i64 dg, .int .i64 bl, .int .i64 hs, .int .i64 sl, .int .i64 vs, .int .i64 qu, .int .i64 ev, .int .i64 id, .int .i64 li, .int .i64 fa, .bool en] : Array Value) ++ S ++ D ++ #[.int .u32 (sd : Int)]
def Cf.cs (c : Cf) : Array Value := ccells c.st c.sz c.dg c.bl c.hs c.sl c.vs c.qu c.ev c.id c.li c.fa c.en (cellsA c.ov c.O) (cellsA c.xv c.X) c.sd
def wi (n lo hi : Int) : Bool := decide (n ≥ lo) && decide (n ≤ hi)
def pw (n lo hi : Int) : Bool := wi n lo hi && decide (n.toNat &&& (n.toNat - 1) = 0)
def okO (c : Cf) : Bool := (vldA c.ov c.O && vldA c.xv c.X) && (!c.en || (!c.ov && c.xv))
def okC (c : Cf) : Bool :=
  wi c.st 1 4 && (pw c.sz 2 1024 && (wi c.dg 1 16 && (pw c.bl 8 65536 && (wi c.hs 1 4 && (wi c.sl 1 64 && (wi c.vs 2 16 && (wi c.qu 1 256 && (wi c.ev 1 64 && (wi c.id 1 1000 && (wi c.li 1 1000 && (wi c.fa 1 10 && okO c)))))))))))
def mx1 (x : Nat) : Nat := x ^^^ x / 65536
def mx2 (x : Nat) : Nat := mx1 x * 2146121005 % 4294967296
def mx3 (x : Nat) : Nat := mx2 x ^^^ mx2 x / 32768
def mx4 (x : Nat) : Nat := mx3 x * 2221713035 % 4294967296
def mixN (x : Nat) : Nat := mx4 x ^^^ mx4 x / 65536
def sdN (s n : Nat) : Nat := (s + 7919 * n) % 4294967296
def hsB (sd n : Nat) (b : List Nat) : Nat := mixN (crcC (knownC.getD (n % 4) 0) (sdN sd n) b)
def hsh (c : Cf) (n : Nat) (k : Fl) : Nat := hsB c.sd n (bK k)
def plN (c : Cf) (k : Fl) (s : Nat) : Nat := hsh c s k % c.sz.toNat
def dgN (c : Cf) (k : Fl) : Nat := if vK k then hsh c 8 k % 2 ^ c.dg.toNat else 0
def fam (T : List Nat) (c : Cf) : Array Value := (nus .u32 T).toArray ++ (#[.int .u32 (c.sd : Int), .int .i64 c.st, .int .i64 c.sz, .int .i64 c.dg, .int .i64 c.bl, .int .i64 c.hs] : Array Value)
def knT (i : Nat) : List Nat := tabL (knownC.getD i 0)
def tabs4 : List Nat := knT 0 ++ (knT 1 ++ (knT 2 ++ knT 3))
def famC (c : Cf) : Array Value := fam tabs4 c
set_option maxRecDepth 100000 in
theorem cf_size (c : Cf) (h : c.Fit) : c.cs.size = 48 := by
  unfold Cf.cs ccells
  simp [cellsA_size, h.lO, h.lX]
set_option maxRecDepth 100000 in
theorem ccells_all (st sz dg bl hs sl vs qu ev id li fa : Int) (en : Bool) (S D : Array Value) (sd : Nat) (hS : S.all (·.oneCell') = true) (hD : D.all (·.oneCell') = true) : (ccells st sz dg bl hs sl vs qu ev id li fa en S D sd).all (·.oneCell') = true := by
  unfold ccells
  rw [Array.all_append, Array.all_append, Array.all_append, hS, hD]
  simp [Value.oneCell']
set_option maxRecDepth 100000 in
theorem cf_all (c : Cf) : c.cs.all (·.oneCell') = true := ccells_all _ _ _ _ _ _ _ _ _ _ _ _ _ _ _ _ (cellsA_all _ _) (cellsA_all _ _)
set_option maxRecDepth 100000 in
theorem cf_get (c : Cf) (h : c.Fit) : c.cs[0]? = some (.int .i64 c.st) ∧ c.cs[1]? = some (.int .i64 c.sz) ∧ c.cs[2]? = some (.int .i64 c.dg) ∧ c.cs[3]? = some (.int .i64 c.bl) ∧ c.cs[4]? = some (.int .i64 c.hs) ∧ c.cs[5]? = some (.int .i64 c.sl) ∧ c.cs[6]? = some (.int .i64 c.vs) ∧ c.cs[7]? = some (.int .i64 c.qu) ∧ c.cs[8]? = some (.int .i64 c.ev) ∧ c.cs[9]? = some (.int .i64 c.id) ∧ c.cs[10]? = some (.int .i64 c.li) ∧ c.cs[11]? = some (.int .i64 c.fa) ∧ c.cs[12]? = some (.bool c.en) ∧ c.cs[13]? = some (.bool c.ov) ∧ c.cs[30]? = some (.bool c.xv) ∧ c.cs[47]? = some (.int .u32 (c.sd : Int)) := by
  have hS : (cellsA c.ov c.O).size = 17 := by rw [cellsA_size, h.lO]
  have hD : (cellsA c.xv c.X).size = 17 := by rw [cellsA_size, h.lX]
  have h0 := cellsA_at0 c.ov c.O
  have h1 := cellsA_at0 c.xv c.X
  unfold Cf.cs ccells
  generalize cellsA c.ov c.O = S at *
  generalize cellsA c.xv c.X = D at *
  refine ⟨?_, ?_, ?_, ?_, ?_, ?_, ?_, ?_, ?_, ?_, ?_, ?_, ?_, ?_, ?_, ?_⟩
  case refine_14 => rw [Array.getElem?_append_left (by simp [hS, hD]), Array.getElem?_append_left (by simp [hS]), Array.getElem?_append_right (by simp)]; exact h0
  case refine_15 => rw [Array.getElem?_append_left (by simp [hS, hD]), Array.getElem?_append_right (by simp [hS])]; simp only [Array.size_append, hS]; exact h1
  case refine_16 => rw [Array.getElem?_append_right (by simp [hS, hD])]; simp only [Array.size_append, hS, hD]; rfl
  all_goals (rw [Array.getElem?_append_left (by simp [hS, hD]), Array.getElem?_append_left (by simp [hS]), Array.getElem?_append_left (by simp)]; rfl)
set_option maxRecDepth 100000 in
theorem cf_own (c : Cf) : (c.cs.toList.drop 13).take (cellsA c.ov c.O).toList.length = (cellsA c.ov c.O).toList := by
  unfold Cf.cs ccells
  generalize cellsA c.ov c.O = S
  generalize cellsA c.xv c.X = D
  simp
set_option maxRecDepth 100000 in
theorem cf_own6 (c : Cf) (h : c.Fit) : (c.cs.toList.drop 30).take (cellsA c.xv c.X).toList.length = (cellsA c.xv c.X).toList := by
  unfold Cf.cs ccells
  have hS : (cellsA c.ov c.O).toList.length = 17 := by rw [Array.length_toList, cellsA_size, h.lO]
  generalize cellsA c.ov c.O = S at *
  generalize cellsA c.xv c.X = D
  simp only [Array.toList_append, List.append_assoc]
  rw [show (30 : Nat) = 13 + 17 from rfl, ← List.drop_drop]
  simp only [List.drop_succ_cons, List.drop_zero, List.cons_append, List.nil_append]
  rw [← hS, List.drop_left, List.take_left]
set_option maxRecDepth 100000 in
theorem mixN_lt (x : Nat) : mixN x < 4294967296 := by
  unfold mixN
  have : mx4 x < 4294967296 := Nat.mod_lt _ (by decide)
  exact Nat.xor_lt_two_pow (n := 32) this (by omega)
set_option maxRecDepth 100000 in
theorem sdN_lt (s n : Nat) : sdN s n < 4294967296 := Nat.mod_lt _ (by decide)
set_option maxRecDepth 100000 in
theorem hsB_lt (sd n : Nat) (b : List Nat) : hsB sd n b < 4294967296 := mixN_lt _
set_option maxRecDepth 100000 in
theorem hsh_lt (c : Cf) (n : Nat) (k : Fl) : hsh c n k < 4294967296 := hsB_lt _ _ _
set_option maxRecDepth 100000 in
theorem knT_len (i : Nat) : (knT i).length = 256 := tabL_len _
set_option maxRecDepth 100000 in
theorem tabs4_len : tabs4.length = 1024 := by unfold tabs4; simp [knT_len]
set_option maxRecDepth 100000 in
theorem fam_size (T : List Nat) (c : Cf) (h : T.length = 1024) : (fam T c).size = 1030 := by unfold fam; simp [nus, h]
set_option maxRecDepth 100000 in
theorem fam_get (T : List Nat) (c : Cf) (h : T.length = 1024) : (fam T c)[1024]? = some (.int .u32 (c.sd : Int)) ∧ (fam T c)[1025]? = some (.int .i64 c.st) ∧ (fam T c)[1026]? = some (.int .i64 c.sz) ∧ (fam T c)[1027]? = some (.int .i64 c.dg) ∧ (fam T c)[1028]? = some (.int .i64 c.bl) ∧ (fam T c)[1029]? = some (.int .i64 c.hs) := by
  have hs : (nus .u32 T).toArray.size = 1024 := by simp [nus, h]
  unfold fam
  generalize (nus .u32 T).toArray = A at *
  refine ⟨?_, ?_, ?_, ?_, ?_, ?_⟩ <;> rw [Array.getElem?_append_right (by omega), hs] <;> rfl
set_option maxRecDepth 100000 in
theorem knT_part (i : Nat) (h : i < 4) : (tabs4.drop (256 * i)).take 256 = knT i := by
  have l0 := knT_len 0
  have l1 := knT_len 1
  have l2 := knT_len 2
  have l3 := knT_len 3
  have hi : i = 0 ∨ i = 1 ∨ i = 2 ∨ i = 3 := by omega
  unfold tabs4
  rcases hi with rfl | rfl | rfl | rfl <;> generalize knT 0 = A at * <;> generalize knT 1 = B at * <;> generalize knT 2 = C at * <;> generalize knT 3 = D at *
  · rw [Nat.mul_zero, List.drop_zero, ← l0, List.take_left]
  · rw [Nat.mul_one, show (A ++ (B ++ (C ++ D))).drop 256 = B ++ (C ++ D) by rw [← l0, List.drop_left], ← l1, List.take_left]
  · rw [show 256 * 2 = 256 + 256 from rfl, ← List.drop_drop, show (A ++ (B ++ (C ++ D))).drop 256 = B ++ (C ++ D) by rw [← l0, List.drop_left], show (B ++ (C ++ D)).drop 256 = C ++ D by rw [← l1, List.drop_left], ← l2, List.take_left]
  · rw [show 256 * 3 = 256 + 256 + 256 from rfl, ← List.drop_drop, ← List.drop_drop, show (A ++ (B ++ (C ++ D))).drop 256 = B ++ (C ++ D) by rw [← l0, List.drop_left], show (B ++ (C ++ D)).drop 256 = C ++ D by rw [← l1, List.drop_left], show (C ++ D).drop 256 = D by rw [← l2, List.drop_left], ← l3, List.take_length]
set_option maxRecDepth 100000 in
theorem fam_part (c : Cf) (i : Nat) (h : i < 4) : ((famC c).toList.drop (256 * i)).take (tcs (knT i)).toList.length = (tcs (knT i)).toList := by
  have hl : (tcs (knT i)).toList.length = 256 := by rw [Array.length_toList, tcs_size, knT_len]
  rw [hl]
  have hp := knT_part i h
  have hd : (tabs4.drop (256 * i)).length ≥ 256 := by rw [List.length_drop, tabs4_len]; omega
  unfold famC fam
  have e : tcs (knT i) = (nus .u32 (knT i)).toArray := rfl
  rw [e, ← hp]
  simp only [Array.toList_append, nus]
  rw [List.drop_append_of_le_length (by rw [List.length_map, tabs4_len]; omega), List.take_append_of_le_length (by rw [List.length_drop, List.length_map, tabs4_len]; omega), ← List.map_drop, ← List.map_take]
end Go.Proofs.Ythldpnifodbheaa
