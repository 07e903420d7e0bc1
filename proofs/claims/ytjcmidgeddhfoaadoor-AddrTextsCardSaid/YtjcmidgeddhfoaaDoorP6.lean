/- addr.parseV6. -/
import Derived.Test.YtjcmidgeddhfoaaDoorP4
import Derived.LoopTactic
import Derived.Handy
import Derived.IntWalk
namespace Go.Proofs.YtjcmidgeddhfoaaDoor
open Go.RowKit Go.Lib

theorem hex_any (c : UInt8) (w : World) :
    Calls Tryd.prog 24 #[.string ⟨hexs.toArray⟩, .int .u8 (c.toNat : Int)] w fun e w' => e = .returned (.int .i64 (hv c)) ∧ w' = w := by
  have h := Tryd.strings_IndexByte ⟨hexs.toArray⟩ (c.toNat : Int) w
  simpa [hv] using h
theorem hex_or : ∀ a b : Fin 16, bits .or .i64 (wrap64 ((a.1 : Int) * 16)) (b.1 : Int) = ((a.1 * 16 + b.1 : Nat) : Int) := by decide +kernel
theorem hex_or' (a b : Int) (ha : 0 ≤ a) (ha' : a < 16) (hb : 0 ≤ b) (hb' : b < 16) : bits .or .i64 (wrap64 (a * 16)) b = ((a.toNat * 16 + b.toNat : Nat) : Int) := by
  have := hex_or ⟨a.toNat, by omega⟩ ⟨b.toNat, by omega⟩
  simp only [] at this
  rwa [Int.toNat_of_nonneg ha, Int.toNat_of_nonneg hb] at this
theorem byte_getD (s : ByteArray) (p : Nat) (h : p < s.size) : s[p] = s.data.toList.getD p 0 := by
  have h' : p < s.data.size := h
  rw [List.getD_eq_getElem?_getD, Array.getElem?_toList, Array.getElem?_eq_getElem h']
  rfl
/-- Where round k begins to read. -/
def hd6 (k : Nat) : Nat := 2 * k + (k - 1) / 2
/-- What holds at the head of each round. -/
structure In6 (w : World) (l : List UInt8) (k : Nat) (wr : World) : Prop where
  k16 : k ≤ 16
  ok : ∀ i, i < k → ok6 l i = true
  out : Blk wr w.heap.size 24 (cellsA false (List.replicate 16 0))
  own : Blk wr (w.heap.size + 1) 24 (cellsA true (vals6 l k ++ List.replicate (16 - k) 0))
  low : Below w.heap.size w wr
/-- What stands in the bytes, and of which kind. -/
def six6 : Option (List Nat) → Value
  | some ns => adr true ns
  | none => adr false (List.replicate 16 0)
theorem parse6_not {l : List UInt8} {k : Nat} (hk : k < 16) (h : ok6 l k = false) : parse6 l = none := by
  unfold parse6
  rw [if_neg]
  rintro ⟨_, h2⟩
  have := List.all_eq_true.1 h2 k (List.mem_range.2 hk)
  rw [h] at this
  cases this
theorem ok6_no1 {l : List UInt8} {k : Nat} (h : hv (l.getD (at6 k) 0) < 0) : ok6 l k = false := by
  rcases hq : ok6 l k with _ | _
  · rfl
  · have := (ok6_spec hq).2.1; omega
theorem ok6_no2 {l : List UInt8} {k : Nat} (h : hv (l.getD (at6 k + 1) 0) < 0) : ok6 l k = false := by
  rcases hq : ok6 l k with _ | _
  · rfl
  · have := (ok6_spec hq).2.2; omega
theorem ok6_no0 {l : List UInt8} {k : Nat} (h0 : 0 < k) (h1 : k % 2 = 0) (h : l.getD (at6 k - 1) 0 ≠ 58) : ok6 l k = false := by
  rcases hq : ok6 l k with _ | _
  · rfl
  · exact absurd ((ok6_spec hq).1 h0 h1) h
theorem vals6_succ (l : List UInt8) (k : Nat) : vals6 l (k + 1) = vals6 l k ++ [val6 l k] := by simp [vals6, List.range_succ]
/-- The next round's. -/
theorem In6.next {w : World} {l : List UInt8} {k : Nat} {wr : World} (h : In6 w l k wr) (hk : k < 16) (hok : ok6 l k = true) (n : Nat) :
    In6 w l (k + 1) ((wr.drewN n).setCell ⟨w.heap.size + 1, 1 + k, none⟩ (.int .u8 (val6 l k : Int))) := by
  refine ⟨by omega, fun i hi => ?_, (h.out.drewN n).far (by simp) _, ?_, (below_drewN h.low n).setCell (by simp) _⟩
  · rcases Nat.lt_succ_iff_lt_or_eq.1 hi with hi | rfl
    · exact h.ok i hi
    · exact hok
  · have hl : (vals6 l k).length = k := vals6_length l k
    have h2 := (h.own.drewN n).set_ (1 + k) (.int .u8 (val6 l k : Int))
    have e : (vals6 l k ++ List.replicate (16 - k) 0).set k (val6 l k) = vals6 l (k + 1) ++ List.replicate (16 - (k + 1)) 0 := by
      have := set_zeros (vals6 l k) (16 - k) (val6 l k) (by omega)
      rw [hl] at this
      rw [this, vals6_succ, show 16 - k - 1 = 16 - (k + 1) by omega]
    rw [cellsA_set, e] at h2
    exact h2
theorem In6.cell {w : World} {l : List UInt8} {k : Nat} {wr : World} (h : In6 w l k wr) (hk : k < 16) :
    wr.cell? ⟨w.heap.size + 1, 1 + k, none⟩ = some (.int .u8 0) ∧ wr.frozen? ⟨w.heap.size + 1, 1 + k, none⟩ = false := by
  have hl : (vals6 l k).length = k := vals6_length l k
  have h1 := (h.own.cell (1 + k)).trans (cellsA_get true _ k (by simp [hl]; omega))
  rw [zeros_get _ _ k hl] at h1
  exact ⟨h1, h.own.frozen (1 + k)⟩

set_option maxRecDepth 100000 in
set_option maxHeartbeats 4000000 in
theorem v6_parse (s : ByteArray) (w : World) (_hs : s.size ≤ 140737488355328) :
    Calls Tryd.prog 17 #[.string s] w fun e w' => e = .returned (.tuple #[six6 (parse6 s.data.toList), .bool (parse6 s.data.toList).isSome]) ∧ Below w.heap.size w w' := by
  obtain ⟨l, hl⟩ : ∃ l, l = s.data.toList := ⟨_, rfl⟩
  rw [← hl]
  have HL := Lib.hid hl
  clear hl
  by_cases h39 : s.size = 39
  · have hstart : In6 w l 0 ((w.alloc (.cells (cellsA false (List.replicate 16 0)) 24)).alloc (.cells (cellsA true (List.replicate 16 0)) 24)) :=
      ⟨by omega, fun i hi => by omega, (Blk.new _ _ _).alloc _, by have := Blk.new (w.alloc (.cells (cellsA false (List.replicate 16 0)) 24)) 24 (cellsA true (List.replicate 16 0)); rw [World.size_alloc] at this; exact this,
        ((Below.refl _ w).alloc (Nat.le_refl _) _).alloc (by simp) _⟩
    have H0 := Lib.hid hstart
    have d39 : ((s.size : Int) != 39) = false := by rw [h39]; rfl
    have H39 := Lib.hid h39
    clear hstart h39
    go_enter Tryd.func17, Tryd.ntmps17
    go_wp2
    go_loopw [5, 14] (fun at0 i wr => ∃ (k p : Nat), at0 = .int .i64 p ∧ i = .int .i64 k ∧ Hid (p = hd6 k) ∧ Hid (In6 w l k wr)) (fun _ i _ => 16 - (RowKit.intOf i).toNat)
    case atStart => exact ⟨0, 0, rfl, rfl, Lib.hid rfl, H0⟩
    case round =>
      obtain ⟨k, p, rfl, rfl, hp, hI⟩ := hrel
      have hk16 := hI.out.k16
      by_cases hlt : k < 16
      · by_cases h0 : k = 0
        · subst h0
          have HAT := Lib.hid (show p = at6 0 from hp.out)
          have hp0 : p ≤ 0 := by rw [HAT.out]; exact Nat.le_refl _
          have hvS : p + 1 < s.size := by rw [H39.out]; omega
          have hvS0 : p < s.size := by rw [H39.out]; omega
          have e1 := byte_getD s p hvS0
          have e2 := byte_getD s (p + 1) hvS
          have g1 := hv_all (s[p]'hvS0)
          have g2 := hv_all (s[p + 1]'hvS)
          have HE1 := Lib.hid (e1.trans (by rw [← HL.out, ← HAT.out]) : s[p]'hvS0 = l.getD (at6 0) 0)
          have HE2 := Lib.hid (e2.trans (by rw [← HL.out, ← HAT.out]) : s[p + 1]'hvS = l.getD (at6 0 + 1) 0)
          have b1 := g1.2.1
          have b2 := g2.2.1
          clear e1 e2 g1 g2
          have i1 : (0 : Int) ≤ (p : Int) := by omega
          have i2 : (p : Int) < (s.size : Int) := by omega
          have i3 : (p : Int) + 1 < (s.size : Int) := by omega
          have q1 : IntKind.i64.wrap ((p : Int) + 1) = (p : Int) + 1 := IntWalk.i64_in _ ⟨by omega, by omega⟩
          have q2 : (0 : Int) ≤ (p : Int) + 1 := by omega
          have q3 : ((p : Int) + 1).toNat = p + 1 := by omega
          by_cases hA : hv (s[p]'hvS0) < 0
          · have hO := hI.out.out
            have HO := Lib.hid hO
            clear hO
            go_wp2_with fail
            go_quiet ((go_at_call 24; exact Calls.quiet_of_same (hex_any _ _)))
            clear q1
            go_wp2_with ((refine wpList_blk_store (op := ⟨none, .store 24 (.tmp 2) (.tmp 46), _, _, _, _⟩) rfl 24 (.tmp 2) (.tmp 46) rfl w.heap.size (cellsA false (List.replicate 16 0)) (by rfl) (by rfl) (HO.out.drewN _) rfl (by kernel_rfl) (cellsA_all _ _) ?_))
            intro w3 hA hF hB
            have HF := Lib.hid hF
            have HA := Lib.hid hA
            clear hF hA
            go_wp2
            have hrun := run_blk_load (P := Tryd.prog) 24 w.heap.size _ HA.out Tryd.underlying24 rfl (by kernel_rfl)
            refine bodyPost_ret (results_cell_tmp 2 24 3 w.heap.size _ Tryd.results17 rfl hrun) rfl ⟨?_, (below_drewN hI.out.low _).trans (hB _ (Nat.le_refl _))⟩
            rw [parse6_not (l := l) (k := 0) (by omega) (ok6_no1 (by rw [← HE1.out]; exact hA))]
            rfl
          · by_cases hB0 : hv (s[p + 1]'hvS) < 0
            · have hA0 : (0 : Int) ≤ hv (s[p]'hvS0) := by omega
              clear hA
              have hO := hI.out.out
              have HO := Lib.hid hO
              clear hO
              go_wp2_with fail
              go_quiet ((go_at_call 24; exact Calls.quiet_of_same (hex_any _ _)))
              clear q1
              go_wp2_with ((refine wpList_blk_store (op := ⟨none, .store 24 (.tmp 2) (.tmp 46), _, _, _, _⟩) rfl 24 (.tmp 2) (.tmp 46) rfl w.heap.size (cellsA false (List.replicate 16 0)) (by rfl) (by rfl) (HO.out.drewN _) rfl (by kernel_rfl) (cellsA_all _ _) ?_))
              intro w3 hA hF hB
              have HF := Lib.hid hF
              have HA := Lib.hid hA
              clear hF hA
              go_wp2
              have hrun := run_blk_load (P := Tryd.prog) 24 w.heap.size _ HA.out Tryd.underlying24 rfl (by kernel_rfl)
              refine bodyPost_ret (results_cell_tmp 2 24 3 w.heap.size _ Tryd.results17 rfl hrun) rfl ⟨?_, (below_drewN hI.out.low _).trans (hB _ (Nat.le_refl _))⟩
              rw [parse6_not (l := l) (k := 0) (by omega) (ok6_no2 (by rw [← HE2.out]; exact hB0))]
              rfl
            · have hA0 : (0 : Int) ≤ hv (s[p]'hvS0) := by omega
              have hB1 : (0 : Int) ≤ hv (s[p + 1]'hvS) := by omega
              obtain ⟨V, hV⟩ : ∃ V, V = val6 l 0 := ⟨_, rfl⟩
              have hv8 := val6_lt l 0
              rw [← hV] at hv8
              have hX : bits .or .i64 (wrap64 (hv (s[p]'hvS0) * 16)) (hv (s[p + 1]'hvS)) = (V : Int) := by
                rw [hex_or' _ _ hA0 b1 hB1 b2, hV, HE1.out, HE2.out]
                rfl
              have hV2 : (V : Int) % 256 = (V : Int) := by omega
              have HV := Lib.hid hV
              have hok : ok6 l 0 = true := ok6_mk (fun h => absurd h (by omega)) (by rw [← HE1.out]; exact hA0) (by rw [← HE2.out]; exact hB1)
              have HOK := Lib.hid hok
              have hC := hI.out.cell (by omega)
              have hcell : wr.cell? ⟨w.heap.size + 1, 1, none⟩ = some (.int .u8 0) := hC.1
              have hfz : wr.frozen? ⟨w.heap.size + 1, 1, none⟩ = false := hC.2
              clear hA hB0 b1 b2 hV hC hok hv8
              go_wp2_with fail
              go_quiet ((go_at_call 24; exact Calls.quiet_of_same (hex_any _ _)))
              clear q1
              go_wp2
              go_roundw
              case rel =>
                refine ⟨0 + 1, p + 2, by go_num, by go_num, Lib.hid ?_, Lib.hid ?_⟩
                · have : p = at6 0 := by rw [HAT.out]
                  rw [this]
                  unfold hd6 at6
                  omega
                · have h := hI.out.next (by omega) HOK.out
                  rw [← HV.out] at h
                  exact h _
              case measure => first | (simp [RowKit.intOf]; done) | (simp [RowKit.intOf]; omega)
        · by_cases h1 : k % 2 = 0
          · have h0' : 0 < k := by omega
            have d0 : decide ((0 : Int) < (k : Int)) = true := decide_eq_true (by omega)
            have d1 : ((k : Int) % 2 == 0) = true := beq_iff_eq.2 (by omega)
            obtain ⟨q, hq⟩ : ∃ q, q = p + 1 := ⟨_, rfl⟩
            have HAT := Lib.hid (show q = at6 k by rw [hq, hp.out]; unfold hd6 at6; omega)
            have HQ := Lib.hid hq
            have hp0 : q ≤ 37 := by rw [HAT.out]; unfold at6; omega
            have hp1 : p ≤ 36 := by omega
            have hqi : (p : Int) + 1 = (q : Int) := by omega
            have HQI := Lib.hid hqi
            have hpS : p < s.size := by rw [H39.out]; omega
            have p2 : (p : Int) < (s.size : Int) := by omega
            have ec := byte_getD s p hpS
            have HEC := Lib.hid (ec.trans (by rw [← HL.out, show p = at6 k - 1 by rw [← HAT.out]; omega]) : s[p]'hpS = l.getD (at6 k - 1) 0)
            have H1 := Lib.hid h1
            clear h1 h0 hq hqi ec
            by_cases hcol : s[p]'hpS = 58
            · have hc : (((s[p]'hpS).toNat : Int) != 58) = false := by rw [hcol]; rfl
              have HCOL := Lib.hid (HEC.out.symm.trans hcol)
              clear hcol
              have hqi := HQI.out
              have hvS : q + 1 < s.size := by rw [H39.out]; omega
              have hvS0 : q < s.size := by rw [H39.out]; omega
              have e1 := byte_getD s q hvS0
              have e2 := byte_getD s (q + 1) hvS
              have g1 := hv_all (s[q]'hvS0)
              have g2 := hv_all (s[q + 1]'hvS)
              have HE1 := Lib.hid (e1.trans (by rw [← HL.out, ← HAT.out]) : s[q]'hvS0 = l.getD (at6 k) 0)
              have HE2 := Lib.hid (e2.trans (by rw [← HL.out, ← HAT.out]) : s[q + 1]'hvS = l.getD (at6 k + 1) 0)
              have b1 := g1.2.1
              have b2 := g2.2.1
              clear e1 e2 g1 g2
              have i1 : (0 : Int) ≤ (q : Int) := by omega
              have i2 : (q : Int) < (s.size : Int) := by omega
              have i3 : (q : Int) + 1 < (s.size : Int) := by omega
              have q1 : IntKind.i64.wrap ((q : Int) + 1) = (q : Int) + 1 := IntWalk.i64_in _ ⟨by omega, by omega⟩
              have q2 : (0 : Int) ≤ (q : Int) + 1 := by omega
              have q3 : ((q : Int) + 1).toNat = q + 1 := by omega
              by_cases hA : hv (s[q]'hvS0) < 0
              · have hO := hI.out.out
                have HO := Lib.hid hO
                clear hO
                go_wp2_with fail
                go_quiet ((go_at_call 24; exact Calls.quiet_of_same (hex_any _ _)))
                clear q1
                go_wp2_with ((refine wpList_blk_store (op := ⟨none, .store 24 (.tmp 2) (.tmp 46), _, _, _, _⟩) rfl 24 (.tmp 2) (.tmp 46) rfl w.heap.size (cellsA false (List.replicate 16 0)) (by rfl) (by rfl) (HO.out.drewN _) rfl (by kernel_rfl) (cellsA_all _ _) ?_))
                intro w3 hA hF hB
                have HF := Lib.hid hF
                have HA := Lib.hid hA
                clear hF hA
                go_wp2
                have hrun := run_blk_load (P := Tryd.prog) 24 w.heap.size _ HA.out Tryd.underlying24 rfl (by kernel_rfl)
                refine bodyPost_ret (results_cell_tmp 2 24 3 w.heap.size _ Tryd.results17 rfl hrun) rfl ⟨?_, (below_drewN hI.out.low _).trans (hB _ (Nat.le_refl _))⟩
                rw [parse6_not (l := l) (k := k) (by omega) (ok6_no1 (by rw [← HE1.out]; exact hA))]
                rfl
              · by_cases hB0 : hv (s[q + 1]'hvS) < 0
                · have hA0 : (0 : Int) ≤ hv (s[q]'hvS0) := by omega
                  clear hA
                  have hO := hI.out.out
                  have HO := Lib.hid hO
                  clear hO
                  go_wp2_with fail
                  go_quiet ((go_at_call 24; exact Calls.quiet_of_same (hex_any _ _)))
                  clear q1
                  go_wp2_with ((refine wpList_blk_store (op := ⟨none, .store 24 (.tmp 2) (.tmp 46), _, _, _, _⟩) rfl 24 (.tmp 2) (.tmp 46) rfl w.heap.size (cellsA false (List.replicate 16 0)) (by rfl) (by rfl) (HO.out.drewN _) rfl (by kernel_rfl) (cellsA_all _ _) ?_))
                  intro w3 hA hF hB
                  have HF := Lib.hid hF
                  have HA := Lib.hid hA
                  clear hF hA
                  go_wp2
                  have hrun := run_blk_load (P := Tryd.prog) 24 w.heap.size _ HA.out Tryd.underlying24 rfl (by kernel_rfl)
                  refine bodyPost_ret (results_cell_tmp 2 24 3 w.heap.size _ Tryd.results17 rfl hrun) rfl ⟨?_, (below_drewN hI.out.low _).trans (hB _ (Nat.le_refl _))⟩
                  rw [parse6_not (l := l) (k := k) (by omega) (ok6_no2 (by rw [← HE2.out]; exact hB0))]
                  rfl
                · have hA0 : (0 : Int) ≤ hv (s[q]'hvS0) := by omega
                  have hB1 : (0 : Int) ≤ hv (s[q + 1]'hvS) := by omega
                  obtain ⟨V, hV⟩ : ∃ V, V = val6 l k := ⟨_, rfl⟩
                  have hv8 := val6_lt l k
                  rw [← hV] at hv8
                  have hX : bits .or .i64 (wrap64 (hv (s[q]'hvS0) * 16)) (hv (s[q + 1]'hvS)) = (V : Int) := by
                    rw [hex_or' _ _ hA0 b1 hB1 b2, hV, HE1.out, HE2.out]
                    rfl
                  have hV2 : (V : Int) % 256 = (V : Int) := by omega
                  have HV := Lib.hid hV
                  have hok : ok6 l k = true := ok6_mk (fun _ _ => HCOL.out) (by rw [← HE1.out]; exact hA0) (by rw [← HE2.out]; exact hB1)
                  have HOK := Lib.hid hok
                  have hC := hI.out.cell (by omega)
                  have hcell : wr.cell? ⟨w.heap.size + 1, 1 + k, none⟩ = some (.int .u8 0) := hC.1
                  have hfz : wr.frozen? ⟨w.heap.size + 1, 1 + k, none⟩ = false := hC.2
                  clear hA hB0 b1 b2 hV hC hok hv8
                  go_wp2_with fail
                  go_quiet ((go_at_call 24; exact Calls.quiet_of_same (hex_any _ _)))
                  clear q1
                  go_wp2
                  go_roundw
                  case rel =>
                    refine ⟨k + 1, q + 2, by go_num, by go_num, Lib.hid ?_, Lib.hid ?_⟩
                    · have : q = at6 k := by rw [HAT.out]
                      rw [this]
                      unfold hd6 at6
                      omega
                    · have h := hI.out.next (by omega) HOK.out
                      rw [← HV.out] at h
                      exact h _
                  case measure => first | (simp [RowKit.intOf]; done) | (simp [RowKit.intOf]; omega)
            · have hc : (((s[p]'hpS).toNat : Int) != 58) = true := by rw [bne_iff_ne]; intro e; exact hcol (UInt8.toNat.inj (Int.ofNat.inj e))
              have HCOL := Lib.hid (fun e => hcol (HEC.out.trans e))
              clear hcol
              have hO := hI.out.out
              have HO := Lib.hid hO
              clear hO
              go_wp2_with ((refine wpList_blk_store (op := ⟨none, .store 24 (.tmp 2) (.tmp 28), _, _, _, _⟩) rfl 24 (.tmp 2) (.tmp 28) rfl w.heap.size (cellsA false (List.replicate 16 0)) (by rfl) (by rfl) (HO.out) rfl (by kernel_rfl) (cellsA_all _ _) ?_))
              intro w3 hA hF hB
              have HF := Lib.hid hF
              have HA := Lib.hid hA
              clear hF hA
              go_wp2
              have hrun := run_blk_load (P := Tryd.prog) 24 w.heap.size _ HA.out Tryd.underlying24 rfl (by kernel_rfl)
              refine bodyPost_ret (results_cell_tmp 2 24 3 w.heap.size _ Tryd.results17 rfl hrun) rfl ⟨?_, hI.out.low.trans (hB _ (Nat.le_refl _))⟩
              rw [parse6_not (l := l) (k := k) (by omega) (ok6_no0 h0' H1.out HCOL.out)]
              rfl
          · have h0' : 0 < k := by omega
            have d0 : decide ((0 : Int) < (k : Int)) = true := decide_eq_true (by omega)
            have d1 : ((k : Int) % 2 == 0) = false := beq_eq_false_iff_ne.2 (by omega)
            have HAT := Lib.hid (show p = at6 k by rw [hp.out]; unfold hd6 at6; omega)
            have hp0 : p ≤ 37 := by rw [HAT.out]; unfold at6; omega
            have H1 := Lib.hid h1
            clear h1 h0
            have hvS : p + 1 < s.size := by rw [H39.out]; omega
            have hvS0 : p < s.size := by rw [H39.out]; omega
            have e1 := byte_getD s p hvS0
            have e2 := byte_getD s (p + 1) hvS
            have g1 := hv_all (s[p]'hvS0)
            have g2 := hv_all (s[p + 1]'hvS)
            have HE1 := Lib.hid (e1.trans (by rw [← HL.out, ← HAT.out]) : s[p]'hvS0 = l.getD (at6 k) 0)
            have HE2 := Lib.hid (e2.trans (by rw [← HL.out, ← HAT.out]) : s[p + 1]'hvS = l.getD (at6 k + 1) 0)
            have b1 := g1.2.1
            have b2 := g2.2.1
            clear e1 e2 g1 g2
            have i1 : (0 : Int) ≤ (p : Int) := by omega
            have i2 : (p : Int) < (s.size : Int) := by omega
            have i3 : (p : Int) + 1 < (s.size : Int) := by omega
            have q1 : IntKind.i64.wrap ((p : Int) + 1) = (p : Int) + 1 := IntWalk.i64_in _ ⟨by omega, by omega⟩
            have q2 : (0 : Int) ≤ (p : Int) + 1 := by omega
            have q3 : ((p : Int) + 1).toNat = p + 1 := by omega
            by_cases hA : hv (s[p]'hvS0) < 0
            · have hO := hI.out.out
              have HO := Lib.hid hO
              clear hO
              go_wp2_with fail
              go_quiet ((go_at_call 24; exact Calls.quiet_of_same (hex_any _ _)))
              clear q1
              go_wp2_with ((refine wpList_blk_store (op := ⟨none, .store 24 (.tmp 2) (.tmp 46), _, _, _, _⟩) rfl 24 (.tmp 2) (.tmp 46) rfl w.heap.size (cellsA false (List.replicate 16 0)) (by rfl) (by rfl) (HO.out.drewN _) rfl (by kernel_rfl) (cellsA_all _ _) ?_))
              intro w3 hA hF hB
              have HF := Lib.hid hF
              have HA := Lib.hid hA
              clear hF hA
              go_wp2
              have hrun := run_blk_load (P := Tryd.prog) 24 w.heap.size _ HA.out Tryd.underlying24 rfl (by kernel_rfl)
              refine bodyPost_ret (results_cell_tmp 2 24 3 w.heap.size _ Tryd.results17 rfl hrun) rfl ⟨?_, (below_drewN hI.out.low _).trans (hB _ (Nat.le_refl _))⟩
              rw [parse6_not (l := l) (k := k) (by omega) (ok6_no1 (by rw [← HE1.out]; exact hA))]
              rfl
            · by_cases hB0 : hv (s[p + 1]'hvS) < 0
              · have hA0 : (0 : Int) ≤ hv (s[p]'hvS0) := by omega
                clear hA
                have hO := hI.out.out
                have HO := Lib.hid hO
                clear hO
                go_wp2_with fail
                go_quiet ((go_at_call 24; exact Calls.quiet_of_same (hex_any _ _)))
                clear q1
                go_wp2_with ((refine wpList_blk_store (op := ⟨none, .store 24 (.tmp 2) (.tmp 46), _, _, _, _⟩) rfl 24 (.tmp 2) (.tmp 46) rfl w.heap.size (cellsA false (List.replicate 16 0)) (by rfl) (by rfl) (HO.out.drewN _) rfl (by kernel_rfl) (cellsA_all _ _) ?_))
                intro w3 hA hF hB
                have HF := Lib.hid hF
                have HA := Lib.hid hA
                clear hF hA
                go_wp2
                have hrun := run_blk_load (P := Tryd.prog) 24 w.heap.size _ HA.out Tryd.underlying24 rfl (by kernel_rfl)
                refine bodyPost_ret (results_cell_tmp 2 24 3 w.heap.size _ Tryd.results17 rfl hrun) rfl ⟨?_, (below_drewN hI.out.low _).trans (hB _ (Nat.le_refl _))⟩
                rw [parse6_not (l := l) (k := k) (by omega) (ok6_no2 (by rw [← HE2.out]; exact hB0))]
                rfl
              · have hA0 : (0 : Int) ≤ hv (s[p]'hvS0) := by omega
                have hB1 : (0 : Int) ≤ hv (s[p + 1]'hvS) := by omega
                obtain ⟨V, hV⟩ : ∃ V, V = val6 l k := ⟨_, rfl⟩
                have hv8 := val6_lt l k
                rw [← hV] at hv8
                have hX : bits .or .i64 (wrap64 (hv (s[p]'hvS0) * 16)) (hv (s[p + 1]'hvS)) = (V : Int) := by
                  rw [hex_or' _ _ hA0 b1 hB1 b2, hV, HE1.out, HE2.out]
                  rfl
                have hV2 : (V : Int) % 256 = (V : Int) := by omega
                have HV := Lib.hid hV
                have hok : ok6 l k = true := ok6_mk (fun _ h => absurd h H1.out) (by rw [← HE1.out]; exact hA0) (by rw [← HE2.out]; exact hB1)
                have HOK := Lib.hid hok
                have hC := hI.out.cell (by omega)
                have hcell : wr.cell? ⟨w.heap.size + 1, 1 + k, none⟩ = some (.int .u8 0) := hC.1
                have hfz : wr.frozen? ⟨w.heap.size + 1, 1 + k, none⟩ = false := hC.2
                clear hA hB0 b1 b2 hV hC hok hv8
                go_wp2_with fail
                go_quiet ((go_at_call 24; exact Calls.quiet_of_same (hex_any _ _)))
                clear q1
                go_wp2
                go_roundw
                case rel =>
                  refine ⟨k + 1, p + 2, by go_num, by go_num, Lib.hid ?_, Lib.hid ?_⟩
                  · have : p = at6 k := by rw [HAT.out]
                    rw [this]
                    unfold hd6 at6
                    omega
                  · have h := hI.out.next (by omega) HOK.out
                    rw [← HV.out] at h
                    exact h _
                case measure => first | (simp [RowKit.intOf]; done) | (simp [RowKit.intOf]; omega)
      · obtain rfl : k = 16 := by omega
        have hz : (cellsA true (vals6 l 16)).size = 17 := by rw [cellsA_size, vals6_length]
        have hO := hI.out.out
        have hW : Blk wr (w.heap.size + 1) 24 (cellsA true (vals6 l 16 ++ [])) := hI.out.own
        rw [List.append_nil] at hW
        have hns : parse6 l = some (vals6 l 16) := by
          unfold parse6
          rw [if_pos ⟨by rw [HL.out]; simpa using H39.out, List.all_eq_true.2 fun i hi => hI.out.ok i (List.mem_range.1 hi)⟩]
        have HO := Lib.hid hO
        have HW := Lib.hid hW
        have HN := Lib.hid hns
        have HZ := Lib.hid (i24.trans (congrArg some hz.symm))
        have HZ2 := Lib.hid (hz.trans (cellsA_size false (List.replicate 16 0)).symm)
        clear hO hW hns hz
        generalize hcs : cellsA true (vals6 l 16) = cs at HW HZ HZ2
        have HC := Lib.hid hcs
        have HAll := Lib.hid (show cs.all (·.oneCell') = true by rw [← hcs]; exact cellsA_all _ _)
        clear hcs
        go_wp2_with (first
          | (refine wpList_blk_load (op := ⟨some 58, .load 24 (.tmp 4), _, _, _, _⟩) rfl 24 (.tmp 4) rfl (w.heap.size + 1) (by rfl) _ HW.out Tryd.underlying24 rfl HZ.out ?_)
          | (refine wpList_blk_store (op := ⟨none, .store 24 (.tmp 2) (.tmp 58), _, _, _, _⟩) rfl 24 (.tmp 2) (.tmp 58) rfl w.heap.size cs (by rfl) (by rfl) HO.out HZ2.out HZ.out HAll.out ?_))
        intro w3 hA hF hB
        have HF := Lib.hid hF
        have HA := Lib.hid hA
        clear hF hA
        go_wp2
        have hrun := run_blk_load (P := Tryd.prog) 24 w.heap.size _ HA.out Tryd.underlying24 rfl HZ.out
        refine bodyPost_ret (results_cell_tmp 2 24 3 w.heap.size _ Tryd.results17 rfl hrun) rfl ⟨?_, hI.out.low.trans (hB _ (Nat.le_refl _))⟩
        rw [HN.out, ← HC.out]
        rfl
  · have hno : parse6 l = none := by
      unfold parse6
      rw [if_neg]
      rintro ⟨h1, _⟩
      rw [HL.out] at h1
      exact h39 (by simpa using h1)
    have d39 : ((s.size : Int) != 39) = true := by rw [bne_iff_ne]; omega
    have HN := Lib.hid hno
    clear hno h39
    go_enter Tryd.func17, Tryd.ntmps17
    go_wp2
    have hrun := run_blk_load (P := Tryd.prog) 24 w.heap.size _ (Blk.new w 24 (cellsA false (List.replicate 16 0))) Tryd.underlying24 rfl (by kernel_rfl)
    refine bodyPost_ret (results_cell_tmp 2 24 3 w.heap.size _ Tryd.results17 rfl hrun) rfl ⟨?_, (Below.refl _ w).alloc (Nat.le_refl _) _⟩
    rw [HN.out]
    rfl
end Go.Proofs.YtjcmidgeddhfoaaDoor
