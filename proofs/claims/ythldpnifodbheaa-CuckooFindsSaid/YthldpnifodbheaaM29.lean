/- Texts that the walks of this seat lean on, put together. -/
import Derived.StillTailTactics
import Derived.Deep.CutBlock
import Derived.Deep.DeepCutAuto
import Derived.LoopTactic
import Derived.Handy
import Derived.Test.YthldpnifodbheaaTk
import Derived.Test.YthldpnifodbheaaTl
import Derived.Test.YthldpnifodbheaaM25
import Derived.Test.YthldpnifodbheaaM27
namespace Go.Proofs.Ythldpnifodbheaa
open Go.RowKit Go.Lib
def ivs (zs : List Int) : List Value := zs.map fun n => .int .i64 n
set_option maxRecDepth 100000 in
theorem ivs_len (zs : List Int) : (ivs zs).length = zs.length := by simp [ivs]
set_option maxRecDepth 100000 in
theorem ivs_get (zs : List Int) (i : Nat) (h : i < zs.length) : (ivs zs)[i]? = some (.int .i64 (zs.getD i 0)) := by
  simp [ivs, List.getElem?_eq_getElem h, List.getD_eq_getElem?_getD]
set_option maxRecDepth 100000 in
theorem rdI_shape {w : World} {v : Value} {zs : List Int} (h : Rd w v (ivs zs)) : ∃ a cap, v = .slice a zs.length cap ∧ zs.length ≤ cap ∧ cap ≤ maxLen := by
  obtain ⟨a, cap, rfl, h1, h2, -⟩ := h
  rw [ivs_len] at h1 ⊢
  exact ⟨a, cap, rfl, h1, h2⟩
set_option maxRecDepth 100000 in
theorem RdI.cells {w : World} {a : Option Addr} {len cap : Nat} {zs : List Int} (h : Rd w (.slice a len cap) (ivs zs)) (h0 : 0 < zs.length) :
    ∃ b off, a = some ⟨b, off, none⟩ ∧ ∀ i, i < zs.length → w.cell? ⟨b, off + i, none⟩ = some (.int .i64 (zs.getD i 0)) := by
  obtain ⟨a', cap', e, -, -, h3⟩ := h
  simp only [Value.slice.injEq] at e
  obtain ⟨rfl, -, -⟩ := e
  rcases h3 with h3 | ⟨b, off, rfl, -, hc⟩
  · have := congrArg List.length h3
    rw [ivs_len] at this
    simp at this
    rw [this] at h0
    simp at h0
  · exact ⟨b, off, rfl, fun i hi => by rw [hc i (by rw [ivs_len]; exact hi), ivs_get zs i hi]⟩
def atI (zs : List Int) (i n : Nat) : Nat := if zs.length = 0 then 0 else (IntKind.i64.wrap (zs.getD (i % zs.length) 0 + ((i / zs.length : Nat) : Int)) % (n : Int)).toNat
set_option maxRecDepth 100000 in
theorem atI_lt (zs : List Int) (i n : Nat) (h : 0 < n) : atI zs i n < n := by
  unfold atI
  split
  · exact h
  · have h1 := Int.emod_lt_of_pos (IntKind.i64.wrap (zs.getD (i % zs.length) 0 + ((i / zs.length : Nat) : Int))) (show (0 : Int) < n by omega)
    have h2 := Int.emod_nonneg (IntKind.i64.wrap (zs.getD (i % zs.length) 0 + ((i / zs.length : Nat) : Int))) (show (n : Int) ≠ 0 by omega)
    omega
set_option maxRecDepth 100000 in
set_option maxHeartbeats 4000000 in
theorem at_any (v : Value) (zs : List Int) (i n : Nat) (hi : i ≤ 1000) (h0 : 0 < n) (hn : n ≤ 1000000) (w : World) (hv : Rd w v (ivs zs)) :
    Calls Try.prog 24 #[v, .int .i64 (i : Int), .int .i64 (n : Int)] w fun e w' => e = .returned (.int .i64 ((atI zs i n : Nat) : Int)) ∧ Below w.heap.size w w' := by
  obtain ⟨a, cap, rfl, hlc, hlm⟩ := rdI_shape hv
  have K := lh (Below.refl w.heap.size w)
  by_cases hz : zs.length = 0
  · have e : atI zs i n = 0 := by unfold atI; rw [if_pos hz]
    rw [e, hz]
    clear hv hz e
    go_enter Try.func24, Try.ntmps24
    go_wp2
    go_ret
    exact ⟨rfl, K.out⟩
  have h2 := atI_lt zs i n h0
  have e : ((atI zs i n : Nat) : Int) = IntKind.i64.wrap (zs.getD (i % zs.length) 0 + ((i / zs.length : Nat) : Int)) % (n : Int) := by
    have h3 := Int.emod_nonneg (IntKind.i64.wrap (zs.getD (i % zs.length) 0 + ((i / zs.length : Nat) : Int))) (show (n : Int) ≠ 0 by omega)
    unfold atI
    rw [if_neg hz]
    omega
  rw [e]
  obtain ⟨b, off, rfl, hcl⟩ := RdI.cells hv (by omega)
  have hml := Nat.mod_lt i (show zs.length > 0 by omega)
  have HC := lh (hcl _ hml)
  have hld : i / zs.length ≤ i := Nat.div_le_self _ _
  have tm : (i : Int).tmod (zs.length : Int) = ((i % zs.length : Nat) : Int) := by rw [Int.tmod_eq_emod_of_nonneg (by omega)]; exact (Int.natCast_emod i zs.length).symm
  have td : (i : Int).tdiv (zs.length : Int) = ((i / zs.length : Nat) : Int) := by rw [Int.tdiv_eq_ediv_of_nonneg (by omega)]; exact (Int.natCast_ediv i zs.length).symm
  generalize zs.getD (i % zs.length) 0 = x at *
  generalize i % zs.length = j at *
  generalize i / zs.length = q at *
  generalize zs.length = l at *
  have w1 : IntKind.i64.wrap (j : Int) = (j : Int) := by rw [IntKind.wrap_i64]; unfold maxLen at hlm; omega
  have w2 : IntKind.i64.wrap (q : Int) = (q : Int) := by rw [IntKind.wrap_i64]; omega
  have z1 : ((l : Int) == 0) = false := by rw [beq_eq_false_iff_ne]; omega
  have z2 : (l : Int) ≠ 0 := by omega
  have CR := lh (fun W => round_any (IntKind.i64.wrap (x + (q : Int))) (n : Int) W (by omega) (by omega))
  have c1 := HC.out
  have c2 : (w.drew).cell? ⟨b, off + j, none⟩ = some (.int .i64 x) := c1
  have i1 : (0 : Int) ≤ (j : Int) := by omega
  have i2 : (j : Int) < (l : Int) := by omega
  obtain ⟨X, hX⟩ : ∃ X, X = IntKind.i64.wrap (x + (q : Int)) := ⟨_, rfl⟩
  rw [← hX] at CR ⊢
  have WX : IntKind.i64.wrap (x + (q : Int)) = X := hX.symm
  clear hcl hv hld h2 e hX
  go_enter Try.func24, Try.ntmps24
  go_upto_region 3 with fail
  refine wp_region_still_tail 13 (by kernel_rfl) (by kernel_rfl) ?_
  change wpStill _ _ w.drew (fun a' => wpList _ _ _ _ a' w.drew) _ _
  have hy := (Below.refl w.heap.size w).drew
  replace K := lh (K.out.trans (hy.mono K.out.size))
  clear hy
  generalize w.drew = V1 at *
  simp only [List.take_succ_cons, List.take_zero, List.drop_succ_cons, List.drop_zero]
  still_step
  still_step
  still_step
  still_step
  still_step
  still_step
  still_step
  still_step
  still_step
  still_step
  still_step
  still_step
  still_step
  refine wpStill_nil ?_
  try simp only [Act.put, tS1, tS2, tS3]
  go_wp2_with fail
  refine (same_below (CR.out V1)).mono ?_
  rintro e V2 ⟨rfl, hy⟩
  replace K := lh (K.out.trans (hy.mono K.out.size))
  clear hy
  go_wp2
  go_ret
  exact ⟨rfl, K.out⟩
def cfg (zs : List Int) : Cf where
  st := 1 + (atI zs 0 4 : Int)
  sz := ((2 * 2 ^ (atI zs 1 6) : Nat) : Int)
  dg := 1 + (atI zs 2 16 : Int)
  bl := ((8 * 2 ^ (atI zs 3 6) : Nat) : Int)
  hs := 1 + (atI zs 4 4 : Int)
  sl := 1 + (atI zs 5 16 : Int)
  vs := 2 + (atI zs 6 5 : Int)
  qu := 1 + (atI zs 7 12 : Int)
  ev := 1 + (atI zs 8 20 : Int)
  id := 1 + (atI zs 9 12 : Int)
  li := 1 + (atI zs 10 5 : Int)
  fa := 1 + (atI zs 11 3 : Int)
  en := false
  ov := false
  O := z16
  xv := true
  X := z16
  sd := atI zs 12 1000
def cf0 : Cf := ⟨0, 0, 0, 0, 0, 0, 0, 0, 0, 0, 0, 0, false, false, z16, false, z16, 0⟩
set_option maxRecDepth 100000 in
theorem zero27 (W : World) : (zeroValue 29).run Try.prog W = .ok (.agg cf0.cs) W := by kernel_rfl
set_option maxRecDepth 100000 in
theorem z16_lt : ∀ n ∈ z16, n < 256 := by decide
set_option maxRecDepth 100000 in
theorem cfg_fit (zs : List Int) : (cfg zs).Fit := ⟨rfl, rfl, z16_lt, z16_lt, by have := atI_lt zs 12 1000 (by decide); show atI zs 12 1000 < 4294967296; omega⟩
set_option maxRecDepth 100000 in
theorem cf0_fit : cf0.Fit := ⟨rfl, rfl, z16_lt, z16_lt, by decide⟩
set_option maxRecDepth 100000 in
theorem pw_sh2 : ∀ j : Fin 6, pw (((2 * 2 ^ j.1 : Nat)) : Int) 2 1024 = true := by decide
set_option maxRecDepth 100000 in
theorem pw_sh8 : ∀ j : Fin 6, pw (((8 * 2 ^ j.1 : Nat)) : Int) 8 65536 = true := by decide
set_option maxRecDepth 100000 in
theorem wi_at (a lo hi : Int) (h1 : lo ≤ a) (h2 : a ≤ hi) : wi a lo hi = true := by
  unfold wi
  rw [decide_eq_true (show a ≥ lo from h1), decide_eq_true h2]; rfl
set_option maxRecDepth 100000 in
theorem cfg_ok (zs : List Int) : okC (cfg zs) = true := by
  have q1 : pw (cfg zs).sz 2 1024 = true := pw_sh2 ⟨atI zs 1 6, atI_lt zs 1 6 (by decide)⟩
  have q3 : pw (cfg zs).bl 8 65536 = true := pw_sh8 ⟨atI zs 3 6, atI_lt zs 3 6 (by decide)⟩
  have q0 : wi (cfg zs).st 1 4 = true := wi_at _ _ _ (by show (_ : Int) ≤ 1 + (atI zs 0 4 : Int); omega) (by have := atI_lt zs 0 4 (by decide); show 1 + (atI zs 0 4 : Int) ≤ (_ : Int); omega)
  have q2 : wi (cfg zs).dg 1 16 = true := wi_at _ _ _ (by show (_ : Int) ≤ 1 + (atI zs 2 16 : Int); omega) (by have := atI_lt zs 2 16 (by decide); show 1 + (atI zs 2 16 : Int) ≤ (_ : Int); omega)
  have q4 : wi (cfg zs).hs 1 4 = true := wi_at _ _ _ (by show (_ : Int) ≤ 1 + (atI zs 4 4 : Int); omega) (by have := atI_lt zs 4 4 (by decide); show 1 + (atI zs 4 4 : Int) ≤ (_ : Int); omega)
  have q5 : wi (cfg zs).sl 1 64 = true := wi_at _ _ _ (by show (_ : Int) ≤ 1 + (atI zs 5 16 : Int); omega) (by have := atI_lt zs 5 16 (by decide); show 1 + (atI zs 5 16 : Int) ≤ (_ : Int); omega)
  have q6 : wi (cfg zs).vs 2 16 = true := wi_at _ _ _ (by show (_ : Int) ≤ 2 + (atI zs 6 5 : Int); omega) (by have := atI_lt zs 6 5 (by decide); show 2 + (atI zs 6 5 : Int) ≤ (_ : Int); omega)
  have q7 : wi (cfg zs).qu 1 256 = true := wi_at _ _ _ (by show (_ : Int) ≤ 1 + (atI zs 7 12 : Int); omega) (by have := atI_lt zs 7 12 (by decide); show 1 + (atI zs 7 12 : Int) ≤ (_ : Int); omega)
  have q8 : wi (cfg zs).ev 1 64 = true := wi_at _ _ _ (by show (_ : Int) ≤ 1 + (atI zs 8 20 : Int); omega) (by have := atI_lt zs 8 20 (by decide); show 1 + (atI zs 8 20 : Int) ≤ (_ : Int); omega)
  have q9 : wi (cfg zs).id 1 1000 = true := wi_at _ _ _ (by show (_ : Int) ≤ 1 + (atI zs 9 12 : Int); omega) (by have := atI_lt zs 9 12 (by decide); show 1 + (atI zs 9 12 : Int) ≤ (_ : Int); omega)
  have q10 : wi (cfg zs).li 1 1000 = true := wi_at _ _ _ (by show (_ : Int) ≤ 1 + (atI zs 10 5 : Int); omega) (by have := atI_lt zs 10 5 (by decide); show 1 + (atI zs 10 5 : Int) ≤ (_ : Int); omega)
  have q11 : wi (cfg zs).fa 1 10 = true := wi_at _ _ _ (by show (_ : Int) ≤ 1 + (atI zs 11 3 : Int); omega) (by have := atI_lt zs 11 3 (by decide); show 1 + (atI zs 11 3 : Int) ≤ (_ : Int); omega)
  have q12 : okO (cfg zs) = true := rfl
  unfold okC
  rw [q0, q1, q2, q3, q4, q5, q6, q7, q8, q9, q10, q11, q12]
  rfl
set_option maxRecDepth 100000 in
theorem built_cfg (x0 x1 x2 x3 x4 x5 x6 x7 x8 x9 x10 x11 : Int) (sd : Nat) : Try.prog.built 29 [(0, .int .i64 x0), (1, .int .i64 x1), (2, .int .i64 x2), (3, .int .i64 x3), (4, .int .i64 x4), (5, .int .i64 x5), (6, .int .i64 x6), (7, .int .i64 x7), (8, .int .i64 x8), (9, .int .i64 x9), (10, .int .i64 x10), (11, .int .i64 x11), (14, .agg (cellsA true z16)), (15, .int .u32 (sd : Int))] = some (ccells x0 x1 x2 x3 x4 x5 x6 x7 x8 x9 x10 x11 false (cellsA false z16) (cellsA true z16) sd) := by kernel_rfl
set_option maxRecDepth 100000 in
theorem built_own6 : Try.prog.built 26 [(0, .bool true)] = some (cellsA true z16) := by kernel_rfl
set_option maxRecDepth 100000 in
theorem sh_2 : ∀ j : Fin 6, IntKind.i64.wrap (2 * 2 ^ min j.1 64) = ((2 * 2 ^ j.1 : Nat) : Int) := by decide +kernel
set_option maxRecDepth 100000 in
theorem sh_8 : ∀ j : Fin 6, IntKind.i64.wrap (8 * 2 ^ min j.1 64) = ((8 * 2 ^ j.1 : Nat) : Int) := by decide +kernel
set_option maxRecDepth 100000 in
set_option maxHeartbeats 4000000 in
theorem config_any (v : Value) (zs : List Int) (w : World) (hv : Rd w v (ivs zs)) :
    Calls Try.prog 8 #[v] w fun e w' => e = .returned (.agg (cfg zs).cs) ∧ Below w.heap.size w w' := by
  have K := lh (Below.refl w.heap.size w)
  obtain ⟨ZC, hZC⟩ : ∃ Z, Z = cf0.cs := ⟨_, rfl⟩
  have z27 : ∀ W, (zeroValue 29).run Try.prog W = .ok (.agg ZC) W := by rw [hZC]; exact zero27
  have hZS : ZC.size = 48 := by rw [hZC]; exact cf_size _ cf0_fit
  clear hZC
  have C0 := lh (show ∀ W, Rd W v (ivs zs) → Calls Try.prog 24 #[v, .int .i64 0, .int .i64 4] W fun e w' => e = .returned (.int .i64 ((atI zs 0 4 : Nat) : Int)) ∧ Below W.heap.size W w' from fun W h => at_any v zs 0 4 (by decide) (by decide) (by decide) W h)
  have l0 := atI_lt zs 0 4 (by decide)
  have C1 := lh (show ∀ W, Rd W v (ivs zs) → Calls Try.prog 24 #[v, .int .i64 1, .int .i64 6] W fun e w' => e = .returned (.int .i64 ((atI zs 1 6 : Nat) : Int)) ∧ Below W.heap.size W w' from fun W h => at_any v zs 1 6 (by decide) (by decide) (by decide) W h)
  have l1 := atI_lt zs 1 6 (by decide)
  have C2 := lh (show ∀ W, Rd W v (ivs zs) → Calls Try.prog 24 #[v, .int .i64 2, .int .i64 16] W fun e w' => e = .returned (.int .i64 ((atI zs 2 16 : Nat) : Int)) ∧ Below W.heap.size W w' from fun W h => at_any v zs 2 16 (by decide) (by decide) (by decide) W h)
  have l2 := atI_lt zs 2 16 (by decide)
  have C3 := lh (show ∀ W, Rd W v (ivs zs) → Calls Try.prog 24 #[v, .int .i64 3, .int .i64 6] W fun e w' => e = .returned (.int .i64 ((atI zs 3 6 : Nat) : Int)) ∧ Below W.heap.size W w' from fun W h => at_any v zs 3 6 (by decide) (by decide) (by decide) W h)
  have l3 := atI_lt zs 3 6 (by decide)
  have C4 := lh (show ∀ W, Rd W v (ivs zs) → Calls Try.prog 24 #[v, .int .i64 4, .int .i64 4] W fun e w' => e = .returned (.int .i64 ((atI zs 4 4 : Nat) : Int)) ∧ Below W.heap.size W w' from fun W h => at_any v zs 4 4 (by decide) (by decide) (by decide) W h)
  have l4 := atI_lt zs 4 4 (by decide)
  have C5 := lh (show ∀ W, Rd W v (ivs zs) → Calls Try.prog 24 #[v, .int .i64 5, .int .i64 16] W fun e w' => e = .returned (.int .i64 ((atI zs 5 16 : Nat) : Int)) ∧ Below W.heap.size W w' from fun W h => at_any v zs 5 16 (by decide) (by decide) (by decide) W h)
  have l5 := atI_lt zs 5 16 (by decide)
  have C6 := lh (show ∀ W, Rd W v (ivs zs) → Calls Try.prog 24 #[v, .int .i64 6, .int .i64 5] W fun e w' => e = .returned (.int .i64 ((atI zs 6 5 : Nat) : Int)) ∧ Below W.heap.size W w' from fun W h => at_any v zs 6 5 (by decide) (by decide) (by decide) W h)
  have l6 := atI_lt zs 6 5 (by decide)
  have C7 := lh (show ∀ W, Rd W v (ivs zs) → Calls Try.prog 24 #[v, .int .i64 7, .int .i64 12] W fun e w' => e = .returned (.int .i64 ((atI zs 7 12 : Nat) : Int)) ∧ Below W.heap.size W w' from fun W h => at_any v zs 7 12 (by decide) (by decide) (by decide) W h)
  have l7 := atI_lt zs 7 12 (by decide)
  have C8 := lh (show ∀ W, Rd W v (ivs zs) → Calls Try.prog 24 #[v, .int .i64 8, .int .i64 20] W fun e w' => e = .returned (.int .i64 ((atI zs 8 20 : Nat) : Int)) ∧ Below W.heap.size W w' from fun W h => at_any v zs 8 20 (by decide) (by decide) (by decide) W h)
  have l8 := atI_lt zs 8 20 (by decide)
  have C9 := lh (show ∀ W, Rd W v (ivs zs) → Calls Try.prog 24 #[v, .int .i64 9, .int .i64 12] W fun e w' => e = .returned (.int .i64 ((atI zs 9 12 : Nat) : Int)) ∧ Below W.heap.size W w' from fun W h => at_any v zs 9 12 (by decide) (by decide) (by decide) W h)
  have l9 := atI_lt zs 9 12 (by decide)
  have C10 := lh (show ∀ W, Rd W v (ivs zs) → Calls Try.prog 24 #[v, .int .i64 10, .int .i64 5] W fun e w' => e = .returned (.int .i64 ((atI zs 10 5 : Nat) : Int)) ∧ Below W.heap.size W w' from fun W h => at_any v zs 10 5 (by decide) (by decide) (by decide) W h)
  have l10 := atI_lt zs 10 5 (by decide)
  have C11 := lh (show ∀ W, Rd W v (ivs zs) → Calls Try.prog 24 #[v, .int .i64 11, .int .i64 3] W fun e w' => e = .returned (.int .i64 ((atI zs 11 3 : Nat) : Int)) ∧ Below W.heap.size W w' from fun W h => at_any v zs 11 3 (by decide) (by decide) (by decide) W h)
  have l11 := atI_lt zs 11 3 (by decide)
  have C12 := lh (show ∀ W, Rd W v (ivs zs) → Calls Try.prog 24 #[v, .int .i64 12, .int .i64 1000] W fun e w' => e = .returned (.int .i64 ((atI zs 12 1000 : Nat) : Int)) ∧ Below W.heap.size W w' from fun W h => at_any v zs 12 1000 (by decide) (by decide) (by decide) W h)
  have l12 := atI_lt zs 12 1000 (by decide)
  have hR : (cfg zs).cs = ccells (1 + (atI zs 0 4 : Int)) (((2 * 2 ^ (atI zs 1 6) : Nat) : Int)) (1 + (atI zs 2 16 : Int)) (((8 * 2 ^ (atI zs 3 6) : Nat) : Int)) (1 + (atI zs 4 4 : Int)) (1 + (atI zs 5 16 : Int)) (2 + (atI zs 6 5 : Int)) (1 + (atI zs 7 12 : Int)) (1 + (atI zs 8 20 : Int)) (1 + (atI zs 9 12 : Int)) (1 + (atI zs 10 5 : Int)) (1 + (atI zs 11 3 : Int)) false (cellsA false z16) (cellsA true z16) (atI zs 12 1000) := rfl
  have hs1 := sh_2 ⟨_, l1⟩
  have hs3 := sh_8 ⟨_, l3⟩
  have RS := cf_size _ (cfg_fit zs)
  have RZ0 := cf_ic _ (cfg_fit zs)
  have RA0 := cf_all (cfg zs)
  rw [hR] at RS RZ0 RA0 ⊢
  simp only at hs1 hs3
  generalize atI zs 0 4 = a0 at *
  generalize atI zs 1 6 = a1 at *
  generalize atI zs 2 16 = a2 at *
  generalize atI zs 3 6 = a3 at *
  generalize atI zs 4 4 = a4 at *
  generalize atI zs 5 16 = a5 at *
  generalize atI zs 6 5 = a6 at *
  generalize atI zs 7 12 = a7 at *
  generalize atI zs 8 20 = a8 at *
  generalize atI zs 9 12 = a9 at *
  generalize atI zs 10 5 = a10 at *
  generalize atI zs 11 3 = a11 at *
  generalize atI zs 12 1000 = a12 at *
  have w0 : IntKind.i64.wrap (1 + (a0 : Int)) = 1 + (a0 : Int) := by rw [IntKind.wrap_i64]; omega
  have w2 : IntKind.i64.wrap (1 + (a2 : Int)) = 1 + (a2 : Int) := by rw [IntKind.wrap_i64]; omega
  have w4 : IntKind.i64.wrap (1 + (a4 : Int)) = 1 + (a4 : Int) := by rw [IntKind.wrap_i64]; omega
  have w5 : IntKind.i64.wrap (1 + (a5 : Int)) = 1 + (a5 : Int) := by rw [IntKind.wrap_i64]; omega
  have w6 : IntKind.i64.wrap (2 + (a6 : Int)) = 2 + (a6 : Int) := by rw [IntKind.wrap_i64]; omega
  have w7 : IntKind.i64.wrap (1 + (a7 : Int)) = 1 + (a7 : Int) := by rw [IntKind.wrap_i64]; omega
  have w8 : IntKind.i64.wrap (1 + (a8 : Int)) = 1 + (a8 : Int) := by rw [IntKind.wrap_i64]; omega
  have w9 : IntKind.i64.wrap (1 + (a9 : Int)) = 1 + (a9 : Int) := by rw [IntKind.wrap_i64]; omega
  have w10 : IntKind.i64.wrap (1 + (a10 : Int)) = 1 + (a10 : Int) := by rw [IntKind.wrap_i64]; omega
  have w11 : IntKind.i64.wrap (1 + (a11 : Int)) = 1 + (a11 : Int) := by rw [IntKind.wrap_i64]; omega
  have w12 : IntKind.u32.wrap (a12 : Int) = (a12 : Int) := by rw [IntKind.wrap_u32]; omega
  have n1 : decide ((a1 : Int) < 0) = false := decide_eq_false (by omega)
  have n3 : decide ((a3 : Int) < 0) = false := decide_eq_false (by omega)
  generalize ((2 * 2 ^ a1 : Nat) : Int) = b1 at *
  generalize ((8 * 2 ^ a3 : Nat) : Int) = b3 at *
  have B27 := lh (built_cfg (1 + (a0 : Int)) b1 (1 + (a2 : Int)) b3 (1 + (a4 : Int)) (1 + (a5 : Int)) (2 + (a6 : Int)) (1 + (a7 : Int)) (1 + (a8 : Int)) (1 + (a9 : Int)) (1 + (a10 : Int)) (1 + (a11 : Int)) a12)
  have B24 := lh built_own6
  generalize ccells (1 + (a0 : Int)) b1 (1 + (a2 : Int)) b3 (1 + (a4 : Int)) (1 + (a5 : Int)) (2 + (a6 : Int)) (1 + (a7 : Int)) (1 + (a8 : Int)) (1 + (a9 : Int)) (1 + (a10 : Int)) (1 + (a11 : Int)) false (cellsA false z16) (cellsA true z16) a12 = R at *
  generalize cellsA true z16 = A6 at *
  have RY : Hid (R.size = ZC.size) := by show _ = _; rw [RS, hZS]
  have RZ := lh RZ0
  have RA := lh RA0
  clear hR RS RZ0 RA0 hZS l0 l1 l2 l3 l4 l5 l6 l7 l8 l9 l10 l11 l12
  go_enter Try.func8, Try.ntmps8
  have hal := (Below.refl w.heap.size w).alloc (Nat.le_refl _) (.cells ZC 29)
  replace K := lh (K.out.trans (hal.mono K.out.size))
  have P := lh (Blk.new w 29 ZC)
  clear hal
  go_wp2_with fail
  have hzV1 : Hid ((w.alloc (.cells ZC 29)).heap.size = w.heap.size + 1) := by show _ = _; simp only [World.size_alloc]
  generalize (w.alloc (.cells ZC 29)) = V1 at *
  have hlow : w.heap.size ≤ V1.heap.size := K.out.size
  have gP : w.heap.size ≤ w.heap.size := Nat.le_refl _
  go_wp2_with fail
  refine wp_region_held (S := (fun w' : World => Below (w.heap.size) V1 w')) (by kernel_rfl) ?_
  change wpAnyH _ _ _ _ _ _ _ _ V1.drew
  have hy : Below V1.heap.size V1 V1.drew := (Below.refl _ _).drew
  have hE0 : Below (w.heap.size) V1 V1.drew := (Below.refl _ _).drew
  replace P := lh (P.out.below hy P.out.lt)
  clear hy
  generalize V1.drew = Y1x0 at hE0 P ⊢
  have E0 := lh hE0
  clear hE0
  refine tkA 0 (?_) ?_ E0.out ?_
  rotate_left
  · (intro w1 hS; go_simp; try with_reducible rfl)
  simp only [Act.put, tS1, tS2, tS3]
  refine tkA 3 (?_) ?_ E0.out ?_
  rotate_left
  · (intro w1 hS; go_simp; try with_reducible rfl)
  simp only [Act.put, tS1, tS2, tS3]
  refine tkA 6 (?_) ?_ E0.out ?_
  rotate_left
  · (intro w1 hS; go_simp; try with_reducible rfl)
  simp only [Act.put, tS1, tS2, tS3]
  refine tkA 9 (?_) ?_ E0.out ?_
  rotate_left
  · (intro w1 hS; go_simp; try with_reducible rfl)
  simp only [Act.put, tS1, tS2, tS3]
  refine tkA 12 (?_) ?_ E0.out ?_
  rotate_left
  · (intro w1 hS; go_simp; try with_reducible rfl)
  simp only [Act.put, tS1, tS2, tS3]
  refine tkA 15 (?_) ?_ E0.out ?_
  rotate_left
  · (intro w1 hS; go_simp; try with_reducible rfl)
  simp only [Act.put, tS1, tS2, tS3]
  refine tkA 18 (?_) ?_ E0.out ?_
  rotate_left
  · (intro w1 hS; go_simp; try with_reducible rfl)
  simp only [Act.put, tS1, tS2, tS3]
  refine tkA 21 (?_) ?_ E0.out ?_
  rotate_left
  · (intro w1 hS; go_simp; try with_reducible rfl)
  simp only [Act.put, tS1, tS2, tS3]
  refine tkA 24 (?_) ?_ E0.out ?_
  rotate_left
  · (intro w1 hS; go_simp; try with_reducible rfl)
  simp only [Act.put, tS1, tS2, tS3]
  refine tkA 27 (?_) ?_ E0.out ?_
  rotate_left
  · (intro w1 hS; go_simp; try with_reducible rfl)
  simp only [Act.put, tS1, tS2, tS3]
  refine tkA 30 (?_) ?_ E0.out ?_
  rotate_left
  · (intro w1 hS; go_simp; try with_reducible rfl)
  simp only [Act.put, tS1, tS2, tS3]
  refine tkA 33 (?_) ?_ E0.out ?_
  rotate_left
  · (intro w1 hS; go_simp; try with_reducible rfl)
  simp only [Act.put, tS1, tS2, tS3]
  refine tkA 36 (.agg A6) ?_ E0.out ?_
  · (intro w1 hS; exact exec_build 26 _ rfl #[(0, .bool true)] (by kernel_rfl) A6 B24.out)
  simp only [Act.put, tS1, tS2, tS3]
  refine tkA 37 (?_) ?_ E0.out ?_
  rotate_left
  · (intro w1 hS; go_simp; try with_reducible rfl)
  simp only [Act.put, tS1, tS2, tS3]
  refine tkO 1 (fun KK hK => ?_)
  go_simp
  refine (C0.out Y1x0 (hv.below (K.out.trans E0.out))).mono ?_
  rintro e Y1x1 ⟨rfl, hy⟩
  replace P := lh (P.out.below hy P.out.lt)
  have E1 := lh (E0.out.trans (hy.mono (Nat.le_trans hlow E0.out.size)))
  have C1 := lh E1.out
  clear hy E0
  refine hK.out _ _ C1.out (fun _ => ?_)
  clear hK KK
  clear C1
  try simp only [Act.put, tS1, tS2, tS3]
  refine tkA 2 (?_) ?_ E1.out ?_
  rotate_left
  · (intro w1 hS; go_simp; try with_reducible rfl)
  simp only [Act.put, tS1, tS2, tS3]
  refine tkO 4 (fun KK hK => ?_)
  go_simp
  refine (C1.out Y1x1 (hv.below (K.out.trans E1.out))).mono ?_
  rintro e Y1x2 ⟨rfl, hy⟩
  replace P := lh (P.out.below hy P.out.lt)
  have E2 := lh (E1.out.trans (hy.mono (Nat.le_trans hlow E1.out.size)))
  have C2 := lh E2.out
  clear hy E1
  refine hK.out _ _ C2.out (fun _ => ?_)
  clear hK KK
  clear C2
  try simp only [Act.put, tS1, tS2, tS3]
  refine tkA 5 (?_) ?_ E2.out ?_
  rotate_left
  · (intro w1 hS; go_simp; try with_reducible rfl)
  simp only [Act.put, tS1, tS2, tS3]
  refine tkO 7 (fun KK hK => ?_)
  go_simp
  refine (C2.out Y1x2 (hv.below (K.out.trans E2.out))).mono ?_
  rintro e Y1x3 ⟨rfl, hy⟩
  replace P := lh (P.out.below hy P.out.lt)
  have E3 := lh (E2.out.trans (hy.mono (Nat.le_trans hlow E2.out.size)))
  have C3 := lh E3.out
  clear hy E2
  refine hK.out _ _ C3.out (fun _ => ?_)
  clear hK KK
  clear C3
  try simp only [Act.put, tS1, tS2, tS3]
  refine tkA 8 (?_) ?_ E3.out ?_
  rotate_left
  · (intro w1 hS; go_simp; try with_reducible rfl)
  simp only [Act.put, tS1, tS2, tS3]
  refine tkO 10 (fun KK hK => ?_)
  go_simp
  refine (C3.out Y1x3 (hv.below (K.out.trans E3.out))).mono ?_
  rintro e Y1x4 ⟨rfl, hy⟩
  replace P := lh (P.out.below hy P.out.lt)
  have E4 := lh (E3.out.trans (hy.mono (Nat.le_trans hlow E3.out.size)))
  have C4 := lh E4.out
  clear hy E3
  refine hK.out _ _ C4.out (fun _ => ?_)
  clear hK KK
  clear C4
  try simp only [Act.put, tS1, tS2, tS3]
  refine tkA 11 (?_) ?_ E4.out ?_
  rotate_left
  · (intro w1 hS; go_simp; try with_reducible rfl)
  simp only [Act.put, tS1, tS2, tS3]
  refine tkO 13 (fun KK hK => ?_)
  go_simp
  refine (C4.out Y1x4 (hv.below (K.out.trans E4.out))).mono ?_
  rintro e Y1x5 ⟨rfl, hy⟩
  replace P := lh (P.out.below hy P.out.lt)
  have E5 := lh (E4.out.trans (hy.mono (Nat.le_trans hlow E4.out.size)))
  have C5 := lh E5.out
  clear hy E4
  refine hK.out _ _ C5.out (fun _ => ?_)
  clear hK KK
  clear C5
  try simp only [Act.put, tS1, tS2, tS3]
  refine tkA 14 (?_) ?_ E5.out ?_
  rotate_left
  · (intro w1 hS; go_simp; try with_reducible rfl)
  simp only [Act.put, tS1, tS2, tS3]
  refine tkO 16 (fun KK hK => ?_)
  go_simp
  refine (C5.out Y1x5 (hv.below (K.out.trans E5.out))).mono ?_
  rintro e Y1x6 ⟨rfl, hy⟩
  replace P := lh (P.out.below hy P.out.lt)
  have E6 := lh (E5.out.trans (hy.mono (Nat.le_trans hlow E5.out.size)))
  have C6 := lh E6.out
  clear hy E5
  refine hK.out _ _ C6.out (fun _ => ?_)
  clear hK KK
  clear C6
  try simp only [Act.put, tS1, tS2, tS3]
  refine tkA 17 (?_) ?_ E6.out ?_
  rotate_left
  · (intro w1 hS; go_simp; try with_reducible rfl)
  simp only [Act.put, tS1, tS2, tS3]
  refine tkO 19 (fun KK hK => ?_)
  go_simp
  refine (C6.out Y1x6 (hv.below (K.out.trans E6.out))).mono ?_
  rintro e Y1x7 ⟨rfl, hy⟩
  replace P := lh (P.out.below hy P.out.lt)
  have E7 := lh (E6.out.trans (hy.mono (Nat.le_trans hlow E6.out.size)))
  have C7 := lh E7.out
  clear hy E6
  refine hK.out _ _ C7.out (fun _ => ?_)
  clear hK KK
  clear C7
  try simp only [Act.put, tS1, tS2, tS3]
  refine tkA 20 (?_) ?_ E7.out ?_
  rotate_left
  · (intro w1 hS; go_simp; try with_reducible rfl)
  simp only [Act.put, tS1, tS2, tS3]
  refine tkO 22 (fun KK hK => ?_)
  go_simp
  refine (C7.out Y1x7 (hv.below (K.out.trans E7.out))).mono ?_
  rintro e Y1x8 ⟨rfl, hy⟩
  replace P := lh (P.out.below hy P.out.lt)
  have E8 := lh (E7.out.trans (hy.mono (Nat.le_trans hlow E7.out.size)))
  have C8 := lh E8.out
  clear hy E7
  refine hK.out _ _ C8.out (fun _ => ?_)
  clear hK KK
  clear C8
  try simp only [Act.put, tS1, tS2, tS3]
  refine tkA 23 (?_) ?_ E8.out ?_
  rotate_left
  · (intro w1 hS; go_simp; try with_reducible rfl)
  simp only [Act.put, tS1, tS2, tS3]
  refine tkO 25 (fun KK hK => ?_)
  go_simp
  refine (C8.out Y1x8 (hv.below (K.out.trans E8.out))).mono ?_
  rintro e Y1x9 ⟨rfl, hy⟩
  replace P := lh (P.out.below hy P.out.lt)
  have E9 := lh (E8.out.trans (hy.mono (Nat.le_trans hlow E8.out.size)))
  have C9 := lh E9.out
  clear hy E8
  refine hK.out _ _ C9.out (fun _ => ?_)
  clear hK KK
  clear C9
  try simp only [Act.put, tS1, tS2, tS3]
  refine tkA 26 (?_) ?_ E9.out ?_
  rotate_left
  · (intro w1 hS; go_simp; try with_reducible rfl)
  simp only [Act.put, tS1, tS2, tS3]
  refine tkO 28 (fun KK hK => ?_)
  go_simp
  refine (C9.out Y1x9 (hv.below (K.out.trans E9.out))).mono ?_
  rintro e Y1x10 ⟨rfl, hy⟩
  replace P := lh (P.out.below hy P.out.lt)
  have E10 := lh (E9.out.trans (hy.mono (Nat.le_trans hlow E9.out.size)))
  have C10 := lh E10.out
  clear hy E9
  refine hK.out _ _ C10.out (fun _ => ?_)
  clear hK KK
  clear C10
  try simp only [Act.put, tS1, tS2, tS3]
  refine tkA 29 (?_) ?_ E10.out ?_
  rotate_left
  · (intro w1 hS; go_simp; try with_reducible rfl)
  simp only [Act.put, tS1, tS2, tS3]
  refine tkO 31 (fun KK hK => ?_)
  go_simp
  refine (C10.out Y1x10 (hv.below (K.out.trans E10.out))).mono ?_
  rintro e Y1x11 ⟨rfl, hy⟩
  replace P := lh (P.out.below hy P.out.lt)
  have E11 := lh (E10.out.trans (hy.mono (Nat.le_trans hlow E10.out.size)))
  have C11 := lh E11.out
  clear hy E10
  refine hK.out _ _ C11.out (fun _ => ?_)
  clear hK KK
  clear C11
  try simp only [Act.put, tS1, tS2, tS3]
  refine tkA 32 (?_) ?_ E11.out ?_
  rotate_left
  · (intro w1 hS; go_simp; try with_reducible rfl)
  simp only [Act.put, tS1, tS2, tS3]
  refine tkO 34 (fun KK hK => ?_)
  go_simp
  refine (C11.out Y1x11 (hv.below (K.out.trans E11.out))).mono ?_
  rintro e Y1x12 ⟨rfl, hy⟩
  replace P := lh (P.out.below hy P.out.lt)
  have E12 := lh (E11.out.trans (hy.mono (Nat.le_trans hlow E11.out.size)))
  have C12 := lh E12.out
  clear hy E11
  refine hK.out _ _ C12.out (fun _ => ?_)
  clear hK KK
  clear C12
  try simp only [Act.put, tS1, tS2, tS3]
  refine tkA 35 (?_) ?_ E12.out ?_
  rotate_left
  · (intro w1 hS; go_simp; try with_reducible rfl)
  simp only [Act.put, tS1, tS2, tS3]
  refine tkO 38 (fun KK hK => ?_)
  go_simp
  refine (C12.out Y1x12 (hv.below (K.out.trans E12.out))).mono ?_
  rintro e Y1x13 ⟨rfl, hy⟩
  replace P := lh (P.out.below hy P.out.lt)
  have E13 := lh (E12.out.trans (hy.mono (Nat.le_trans hlow E12.out.size)))
  have C13 := lh E13.out
  clear hy E12
  refine hK.out _ _ C13.out (fun _ => ?_)
  clear hK KK
  clear C13
  try simp only [Act.put, tS1, tS2, tS3]
  refine tkA 39 (?_) ?_ E13.out ?_
  rotate_left
  · (intro w1 hS; go_simp; try with_reducible rfl)
  simp only [Act.put, tS1, tS2, tS3]
  refine tkA 40 (.agg R) ?_ E13.out ?_
  · (intro w1 hS; exact exec_build 29 _ rfl #[(0, .int .i64 (1 + (a0 : Int))), (1, .int .i64 b1), (2, .int .i64 (1 + (a2 : Int))), (3, .int .i64 b3), (4, .int .i64 (1 + (a4 : Int))), (5, .int .i64 (1 + (a5 : Int))), (6, .int .i64 (2 + (a6 : Int))), (7, .int .i64 (1 + (a7 : Int))), (8, .int .i64 (1 + (a8 : Int))), (9, .int .i64 (1 + (a9 : Int))), (10, .int .i64 (1 + (a10 : Int))), (11, .int .i64 (1 + (a11 : Int))), (14, .agg A6), (15, .int .u32 (a12 : Int))] (by kernel_rfl) R B27.out)
  simp only [Act.put, tS1, tS2, tS3]
  refine tkO 41 (fun KK hK => ?_)
  rw [if_pos (by rfl)]
  refine wp_blk_store 29 (.tmp 2) (.tmp 43) rfl R rfl rfl P.out RY.out RZ.out RA.out ?_
  intro Y1x14 hA hF hB
  have E14 := lh (E13.out.trans (hB _ gP))
  replace P := lh hA
  clear hA hF hB E13
  refine hK.out _ _ E14.out (fun _ => ?_)
  clear hK KK
  try simp only [Act.put]
  refine wpAnyH_done (by kernel_rfl) ?_ _
  replace K := lh (K.out.trans (E14.out.mono (by omega)))
  clear E14
  go_wp2
  have hrun := run_blk_load (P := Try.prog) 29 w.heap.size _ P.out Try.underlying29 rfl RZ.out
  exact bodyPost_ret (results_cell 2 29 w.heap.size _ Try.results8 rfl hrun) rfl ⟨rfl, K.out⟩
end Go.Proofs.Ythldpnifodbheaa
