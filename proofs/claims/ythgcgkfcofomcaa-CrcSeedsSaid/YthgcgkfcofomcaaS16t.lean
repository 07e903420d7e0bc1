/- CrcTables' walk. -/
import Derived.Test.YthgcgkfcofomcaaS16w
import Derived.LoopTactic
import Derived.Handy
namespace Go.Proofs.Ythgcgkfcofomcaa
open Go.RowKit Go.Lib

theorem wf_u32 (n : Int) (h : (Lit.int .u32 n).wf = true) : ∃ m : Nat, n = (m : Int) ∧ m < 4294967296 := by
  have := bounds_u32 h
  exact ⟨n.toNat, by omega, by omega⟩
theorem round_nat (n : Int) (m : Nat) (hm : 0 < m) : n % (m : Int) = (((n % (m : Int)).toNat : Nat) : Int) ∧ (n % (m : Int)).toNat < m := by
  have h1 := Int.emod_nonneg n (show (m : Int) ≠ 0 by omega)
  have h2 := Int.emod_lt_of_pos n (show (0 : Int) < m by omega)
  omega
theorem and1_i64 (x : Nat) (h : x < 9223372036854775808) : bits .and .i64 (x : Int) 1 = ((x % 2 : Nat) : Int) := by
  have h127 : (BitVec.ofInt 64 1).toNat = 2 ^ 1 - 1 := by decide
  have key : (BitVec.ofInt 64 (x : Int) &&& BitVec.ofInt 64 1).toNat = ((x : Int) % ((2 ^ 64 : Nat) : Int)).toNat % 2 ^ 1 := by
    rw [BitVec.toNat_and, BitVec.toNat_ofInt, h127, Nat.and_two_pow_sub_one_eq_mod]
  show IntKind.i64.wrap ((BitVec.ofInt 64 (x : Int) &&& BitVec.ofInt 64 1).toNat : Nat) = _
  rw [key, IntKind.wrap_i64]
  omega
theorem pow_8 (j : Nat) (h : j < 8) : 2 ^ j < 256 := by
  have : j = 0 ∨ j = 1 ∨ j = 2 ∨ j = 3 ∨ j = 4 ∨ j = 5 ∨ j = 6 ∨ j = 7 := by omega
  rcases this with rfl | rfl | rfl | rfl | rfl | rfl | rfl | rfl <;> decide
theorem wrap_pow (j : Nat) (h : j < 8) : wrap64 (2 ^ j) = ((2 ^ j : Nat) : Int) := by
  have : j = 0 ∨ j = 1 ∨ j = 2 ∨ j = 3 ∨ j = 4 ∨ j = 5 ∨ j = 6 ∨ j = 7 := by omega
  rcases this with rfl | rfl | rfl | rfl | rfl | rfl | rfl | rfl <;> decide +kernel
theorem div_pow (k j : Nat) : (k : Int) / 2 ^ j = ((k / 2 ^ j : Nat) : Int) := by
  rw [Int.natCast_ediv]
  simp
theorem div_small (k j : Nat) (h : k < 256) : k / 2 ^ j < 9223372036854775808 := Nat.lt_of_le_of_lt (Nat.div_le_self _ _) (by omega)
theorem tabSum_yes (p k j : Nat) (h : k / 2 ^ j % 2 = 1) : tabSum p k (j + 1) = tabSum p k j ^^^ tabC p (2 ^ j) := by
  show (if _ then _ else _) = _
  rw [if_pos h]
theorem tabSum_no (p k j : Nat) (h : k / 2 ^ j % 2 = 0) : tabSum p k (j + 1) = tabSum p k j := by
  show (if _ then _ else _) = _
  rw [if_neg (by omega)]
set_option maxRecDepth 100000 in
set_option maxHeartbeats 400000 in
theorem tables_walk (p : Nat) (hp : p < 4294967296) (n : Int) (w : World) :
    Calls Try.prog 6 #[.int .u32 (p : Int), .int .i64 n] w fun e w' => e = .returned (.bool true) ∧ Below w.heap.size w w' := by
  obtain ⟨ZL, hZL⟩ : ∃ Z, Z = List.replicate 256 0 := ⟨_, rfl⟩
  have z26 : ∀ W, (zeroValue 26).run Try.prog W = .ok (.agg (tcs ZL)) W := by rw [hZL]; exact zero26
  have hl : ZL.length = 256 := by rw [hZL]; exact List.length_replicate
  clear hZL
  have HL := Lib.hid hl
  have CK := Lib.hid known_any
  have CM := Lib.hid (fun W => make_any p hp W)
  have CA := Lib.hid awake_any
  have CR := Lib.hid (fun W => round_any n 256 W (by decide) (by decide))
  obtain ⟨hk1, hk2⟩ := round_nat n 256 (by decide)
  generalize hkk : (n % ((256 : Nat) : Int)).toNat = k at hk1 hk2
  have hk1' : n % 256 = (k : Int) := hk1
  rw [hk1'] at CR
  have TA := Lib.hid (fun j (h : j < 256) => (tcs_at (tabL p) j (by rw [tabL_len]; exact h)).trans (by rw [tabL_at _ _ h]))
  have SZ := Lib.hid (tabL_len p)
  have hS : Hid ((tcs (tabL p)).size = (tcs ZL).size) := by show _ = _; rw [tcs_size, tcs_size, SZ.out, HL.out]
  have hI := Lib.hid (info26 (tabL p) SZ.out)
  have hO := Lib.hid (tcs_one (tabL p))
  have HT := Lib.hid (tabSum_eq p k)
  generalize tabL p = T at *
  clear hk1 hk1' hkk hl
  go_enter Try.func6, Try.ntmps6
  go_wp2_with fail
  refine (CM.out w).mono ?_
  rintro e V2 ⟨rfl, hy⟩
  have hal := (Below.refl V2.heap.size V2).alloc (Nat.le_refl _) (.cells (tcs ZL) 26)
  have K := Lib.hid (hy.trans (hal.mono hy.size))
  have N0 := Lib.hid (Blk.new V2 26 (tcs ZL))
  have sz := hy.size
  clear hy hal
  go_wp2_with ((with_reducible refine wpList_blk_store (op := ⟨none, .store 26 (.tmp 5) (.tmp 12), _, _, _, _⟩) ?sg1 26 (.tmp 5) (.tmp 12) ?so1 (V2.heap.size) (tcs T) ?sx1 ?sy1 N0.out hS.out hI.out hO.out ?_); (case sg1 => rfl); (case so1 => rfl); (case sx1 => rfl); (case sy1 => rfl))
  intro V3 hA hF hW
  replace K := Lib.hid (K.out.trans (hW _ (by omega)))
  have N := Lib.hid hA
  clear hA hF hW N0 hS sz
  generalize V2.heap.size = g2 at *
  go_wp2_with fail
  refine (CR.out V3).mono ?_
  rintro e V ⟨rfl, rfl⟩
  go_wp2
  go_loopw [7, 8] (fun x i wr => ∃ (j y : Nat), j ≤ 8 ∧ i = .int .i64 (j : Int) ∧ x = .int .u32 (y : Int) ∧ Hid (y < 4294967296 ∧ y = tabSum p k j) ∧ V3 = wr) (fun _ i _ => 8 - (RowKit.intOf i).toNat)
  case atStart => exact ⟨0, 0, by omega, rfl, rfl, ⟨by decide, rfl⟩, rfl⟩
  case round =>
    obtain ⟨j, y, hj, rfl, rfl, hY, rfl⟩ := hrel
    by_cases hlt : j < 8
    · have d8 : decide ((j : Int) < 8) = true := decide_eq_true (by omega)
      have A1 := Lib.hid (and1_i64 (k / 2 ^ j) (div_small k j hk2))
      have hm : k / 2 ^ j % 2 = 0 ∨ k / 2 ^ j % 2 = 1 := by omega
      have HD := Lib.hid (div_pow k j)
      have hw := wrap_pow j hlt
      have hp8 := pow_8 j hlt
      rcases hm with hm | hm
      · have HN := Lib.hid (tabSum_no p k j hm)
        have a1 : bits .and .i64 ((k : Int) / 2 ^ j) 1 = 0 := by rw [HD.out, A1.out, hm]; rfl
        clear hw hm
        go_wp2
        go_roundw
        case rel => exact ⟨j + 1, y, Nat.succ_le_of_lt hlt, by go_num, rfl, ⟨hY.out.1, by rw [HN.out]; exact hY.out.2⟩, trivial⟩
        case measure => simp [RowKit.intOf]; omega
      · have HN := Lib.hid (tabSum_yes p k j hm)
        have a1 : bits .and .i64 ((k : Int) / 2 ^ j) 1 = 1 := by rw [HD.out, A1.out, hm]; rfl
        clear hm
        obtain ⟨pj, hpj⟩ : ∃ pj, pj = 2 ^ j := ⟨_, rfl⟩
        rw [← hpj] at hw hp8 HN
        clear hpj
        have hc := (N.out.cell pj).trans (TA.out pj hp8)
        have X1 := Lib.hid (xor_u32 y (tabC p pj) hY.out.1 (tabC_lt p pj hp (by omega)))
        have X2 := Lib.hid (Nat.xor_lt_two_pow (n := 32) hY.out.1 (tabC_lt p pj hp (by omega)))
        go_wp2
        go_roundw
        case rel => exact ⟨j + 1, y ^^^ tabC p pj, Nat.succ_le_of_lt hlt, by go_num, by rw [X1.out], ⟨X2.out, by rw [HN.out, ← hY.out.2]⟩, trivial⟩
        case measure => simp [RowKit.intOf]; omega
    · obtain rfl : j = 8 := by omega
      have d16 : decide (((8 : Nat) : Int) < 8) = false := by decide
      have hy8 : y = tabC p k := by
        have q := hY.out.2
        rw [HT.out 8, Nat.mod_eq_of_lt (by omega)] at q
        exact q
      have hq := hY.out.1
      subst hy8
      clear hY HT d16
      go_wp2_with fail
      refine (CK.out V3).mono ?_
      rintro e V4 ⟨rfl, hB, hy⟩
      have sz3 := K.out.size
      have hg := N.out.lt
      have c0 : V4.cell? ⟨V3.heap.size, 0, none⟩ = some (.int .u32 3988292384) := hB.cell 0
      have f0 := hB.frozen 0
      replace N := Lib.hid (N.out.below hy N.out.lt)
      replace K := Lib.hid (K.out.trans (hy.mono sz3))
      replace N := Lib.hid (N.out.far (p := ⟨V3.heap.size, 0, none⟩) (by show _ ≠ V3.heap.size; omega) (.int .u32 7))
      replace K := Lib.hid (K.out.setCell (p := ⟨V3.heap.size, 0, none⟩) (by show _ ≤ V3.heap.size; omega) (.int .u32 7))
      clear hB hy hg sz3
      go_wp2_with fail
      clear c0 f0
      generalize V4.setCell ⟨V3.heap.size, 0, none⟩ (.int .u32 7) = V5 at *
      refine (CK.out V5).mono ?_
      rintro e V6 ⟨rfl, hB, hy⟩
      have c0 : V6.cell? ⟨V5.heap.size, 0, none⟩ = some (.int .u32 3988292384) := hB.cell 0
      replace N := Lib.hid (N.out.below hy N.out.lt)
      replace K := Lib.hid (K.out.trans (hy.mono K.out.size))
      have c1 := (N.out.cell 0).trans (TA.out 0 (by decide))
      rw [tabC_zero] at c1
      have c2 := (N.out.cell k).trans (TA.out k hk2)
      generalize tabC p k = y at *
      clear hB hy
      go_wp2_with fail
      refine (CA.out V6).mono ?_
      rintro e V7 ⟨rfl, hy⟩
      replace K := Lib.hid (K.out.trans (hy.mono K.out.size))
      clear hy c0 c1 c2
      go_wp2
      go_ret
      exact ⟨rfl, K.out⟩
end Go.Proofs.Ythgcgkfcofomcaa
