/- Texts that the walks of this seat lean on, put together: each has its own remark below. -/
import Derived.LoopTactic
import Derived.Laws.BytesArg
import Derived.Test.YthjaolngfjfldaaM01
import Derived.Test.YthjaolngfjfldaaM02
import Derived.Test.YthjaolngfjfldaaM03
import Derived.Test.YthjaolngfjfldaaM04
import Derived.Test.YthjaolngfjfldaaM05
import Derived.Test.YthjaolngfjfldaaM08

/- bazaarref1.Bytes. -/
namespace Go.Proofs.Ythjaolngfjfldaa
open Go.RowKit

/-- The bytes of an address that lies in a block of its own. -/
theorem rd_adr {w : World} {g : Nat} {t : TypeId} {v : Bool} {bs : List Nat} (h : Blk w g t (cellsA v bs)) (n : Nat) (hn : n ≤ bs.length) (h16 : n ≤ 16) : Rd w (.slice (some ⟨g, 1, none⟩) n 16) (nus .u8 (bs.take n)) := by
  have hl : (nus .u8 (bs.take n)).length = n := by rw [nus_length]; simp; omega
  refine ⟨_, _, by rw [hl], by rw [hl]; exact h16, by simp [maxLen], .inr ⟨g, 1, rfl, h.lt, fun i hi => ?_⟩⟩
  rw [hl] at hi
  rw [h.cell (1 + i), cellsA_get v bs i (by omega), nus_get _ _ _ (by simp; omega)]
  simp [List.getD_eq_getElem?_getD, hi]

set_option maxHeartbeats 1000000 in
theorem rbytes_own (v : Bool) (bs : List Nat) (hl : bs.length = 16) (w : World) :
    Calls Try.prog 32 #[adr v bs] w fun e w' => ∃ z, e = .returned z ∧ w'.ownsRow w.heap.size 5 1 z (bytesA v bs).length (nus .u8 (bytesA v bs)) ∧ Below w.heap.size w w' := by
  unfold adr
  have HN := Lib.hid (Blk.new w 25 (cellsA v bs))
  have B0 := (Below.refl w.heap.size w).alloc (Nat.le_refl _) (.cells (cellsA v bs) 25)
  have hc0 : (w.alloc (.cells (cellsA v bs) 25)).cell? ⟨w.heap.size, 0, none⟩ = some (.bool v) := (HN.out.cell 0).trans (by simp [cellsA])
  have R4 := Lib.hid (rd_adr HN.out 4 (by omega) (by omega))
  have R16 := Lib.hid (rd_adr HN.out 16 (by omega) (by omega))
  have e16 : bs.take 16 = bs := List.take_of_length_le (by omega)
  rw [e16] at R16
  have HL := Lib.hid hl
  generalize cellsA v bs = c at *
  generalize hW : w.alloc (.cells c 25) = W at hc0 R4 R16 B0
  have HW := Lib.hid hW
  have hsz : w.heap.size ≤ W.heap.size := by rw [← hW]; simp
  have o1 := own_low hsz (own_none W 5)
  have b1 := (Below.refl W.heap.size W).alloc (Nat.le_refl _) (.cells #[] 5)
  have K1 := Lib.hid (B0.trans (b1.mono hsz))
  have O1 := Lib.hid o1
  have r4 := Lib.hid (R4.out.below b1)
  have r16 := Lib.hid (R16.out.below b1)
  clear hl hW HN B0 e16 o1 b1 R4 R16
  cases v with
  | false =>
    unfold bytesA
    rw [if_neg (by decide), show (bs.take 4).length = 4 from by rw [List.length_take, HL.out]; rfl]
    go_enter Try.func32, Try.ntmps32
    have hWW := HW.out
    go_wp2_with (at_builtin; refine wpList_app rfl (.tmp 6) (.tmp 9) rfl w.heap.size _ 0 [] rfl O1.out (some _) 4 16 (bs.take 4) rfl r4.out ?c1 ?c2 ?c3 ?c4)
    case c1 => intro e; cases e
    case c2 => omega
    case c3 => exact K1.out.size
    intro v2 w2 o2 g2
    have K2 := Lib.hid (K1.out.grown g2 K1.out.size (fun k e => (O1.out.lt k e).1))
    have O2 := Lib.hid o2
    clear o2 g2
    go_wp2
    go_ret
    exact ⟨_, rfl, O2.out, K2.out⟩
  | true =>
    unfold bytesA
    rw [if_pos rfl, show bs.length = 16 from HL.out]
    go_enter Try.func32, Try.ntmps32
    have hWW := HW.out
    go_wp2_with (at_builtin; refine wpList_app rfl (.tmp 6) (.tmp 9) rfl w.heap.size _ 0 [] rfl O1.out (some _) 16 16 bs rfl r16.out ?d1 ?d2 ?d3 ?d4)
    case d1 => intro e; cases e
    case d2 => omega
    case d3 => exact K1.out.size
    intro v2 w2 o2 g2
    have K2 := Lib.hid (K1.out.grown g2 K1.out.size (fun k e => (O1.out.lt k e).1))
    have O2 := Lib.hid o2
    clear o2 g2
    go_wp2
    go_ret
    exact ⟨_, rfl, O2.out, K2.out⟩
end Go.Proofs.Ythjaolngfjfldaa

/- bazaarref1.put16 into a row of the call's own. -/
namespace Go.Proofs.Ythjaolngfjfldaa
open Go.RowKit
theorem hi_i64 (v : Nat) (h : v < 65536) : IntKind.u8.wrap ((v : Int) / 256) = ((v / 256 : Nat) : Int) := by rw [IntKind.wrap_u8]; omega
theorem lo_i64 (v : Nat) : IntKind.u8.wrap (v : Int) = ((v % 256 : Nat) : Int) := by rw [IntKind.wrap_u8]; omega

set_option maxHeartbeats 800000 in
theorem rput16_any (g n cap base k v : Nat) (zs : List Nat) (w : World) (hown : w.ownsRow base 5 1 (.slice (some ⟨g, 0, none⟩) n cap) n (nus .u8 zs)) (hn : n ≤ maxLen) (hk : k + 2 ≤ n) (hv : v < 65536) :
    Calls Try.prog 29 #[.slice (some ⟨g, 0, none⟩) n cap, .int .i64 (k : Int), .int .i64 (v : Int)] w fun e w' => e = .returned (.tuple #[]) ∧ w'.ownsRow base 5 1 (.slice (some ⟨g, 0, none⟩) n cap) n (nus .u8 ((zs.set k (v / 256)).set (k + 1) (v % 256))) ∧ w.grownBy w' (some g) := by
  have hzl : zs.length = n := by have := hown.1; simpa [nus_length] using this
  unfold maxLen at hn
  have hcell := hown.cellAt k (by omega)
  have hcel2 := hown.cellAt (k + 1) (by omega)
  rw [nus_get _ _ _ (by omega)] at hcell hcel2
  have hfz := hown.frozenAt k
  have hfz2 := hown.frozenAt (k + 1)
  have e1 := hi_i64 v hv
  have e2 := lo_i64 v
  have hst := hown.stored k (.int .u8 ((v / 256 : Nat) : Int))
  rw [nus_set] at hst
  have hst2 := hst.1.stored (k + 1) (.int .u8 ((v % 256 : Nat) : Int))
  rw [nus_set] at hst2
  have HS := Lib.hid hst
  have HS2 := Lib.hid hst2
  clear hown hst hst2
  go_enter Try.func29, Try.ntmps29
  go_wp2
  refine bodyPost_end (results_none rfl _ _ _) rfl ?_
  exact ⟨rfl, HS2.out.1, grownBy_trans HS.out.2 HS2.out.2⟩
end Go.Proofs.Ythjaolngfjfldaa

/- bazaarref1.FourDest. -/
namespace Go.Proofs.Ythjaolngfjfldaa
open Go.RowKit

theorem hd_size' (zs : List Nat) : (hd zs).size = 37 := by
  unfold hd
  split
  · exact hcells_size _ _ _ _ _ (a4_size _ (by simp; omega)) (a4_size _ (by simp; omega))
  · rfl
theorem hd_all (zs : List Nat) : (hd zs).all (·.oneCell') = true := by
  unfold hd
  split
  · exact hcells_all _ _ _ _ _ (a4_all _) (a4_all _)
  · exact h0_all

set_option maxHeartbeats 1000000 in
theorem rdest_no (v : Value) (zs : List Nat) (six : Bool) (bs : List Nat) (w : World) (hr : Rd w v (nus .u8 zs)) (hb : ∀ c ∈ zs, c < 256) (hz : zs.length ≤ 2000) (h : ff zs ≠ 0 ∨ six = true) :
    Calls Try.prog 15 #[v, adr six bs] w fun e w' => e = .returned (.slice none 0 0) ∧ Below w.heap.size w w' := by
  obtain ⟨a, cap, rfl, -, -⟩ := rd_shape hr
  unfold adr
  obtain ⟨c, hc⟩ : ∃ c, c = cellsA six bs := ⟨_, rfl⟩
  have hc0 : c[0]? = some (.bool six) := by rw [hc]; exact cellsA_head _ _
  rw [← hc]
  have B0 := (Below.refl w.heap.size w).alloc (Nat.le_refl _) (.cells c 25)
  have HF := Lib.hid (rfour_any _ zs _ (hr.below B0) hb hz)
  have HN := Lib.hid (Blk.new w 25 c)
  have HB := Lib.hid B0
  have hlt := ff_lt zs
  have hsz := hd_size' zs
  have Z32 := Lib.hid (i32.trans (congrArg some hsz.symm))
  have Z9 : Hid ((hd zs).size = Array.size (#[Value.int .i64 0, .int .i64 0, .int .u8 0, .bool false, .int .u8 0, .int .u8 0, .int .u8 0, .int .u8 0, .int .u8 0, .int .u8 0, .int .u8 0, .int .u8 0, .int .u8 0, .int .u8 0, .int .u8 0, .int .u8 0, .int .u8 0, .int .u8 0, .int .u8 0, .int .u8 0, .bool false, .int .u8 0, .int .u8 0, .int .u8 0, .int .u8 0, .int .u8 0, .int .u8 0, .int .u8 0, .int .u8 0, .int .u8 0, .int .u8 0, .int .u8 0, .int .u8 0, .int .u8 0, .int .u8 0, .int .u8 0, .int .u8 0] : Array Value)) := hsz
  have A := Lib.hid (hd_all zs)
  generalize hd zs = hdc at *
  generalize ff zs = r at *
  generalize zs.length = n at *
  clear hr hb hsz B0 hc
  go_enter Try.func15, Try.ntmps15
  go_wp2_with fail
  refine HF.out.mono ?_; rintro e W1 ⟨rfl, hb⟩
  have N1 := Lib.hid (HN.out.below hb HN.out.lt)
  have K1 := Lib.hid (HB.out.trans (hb.mono HB.out.size))
  clear hb HN HB HF
  go_wp2_with (((with_reducible refine wpList_blk_store (op := ⟨none, .store 32 (.tmp 5) (.tmp 13), _, _, _, _⟩) ?sg1 32 (.tmp 5) (.tmp 13) ?so1 (W1.heap.size) hdc ?sx1 ?sy1 (Blk.new W1 32 #[Value.int .i64 0, .int .i64 0, .int .u8 0, .bool false, .int .u8 0, .int .u8 0, .int .u8 0, .int .u8 0, .int .u8 0, .int .u8 0, .int .u8 0, .int .u8 0, .int .u8 0, .int .u8 0, .int .u8 0, .int .u8 0, .int .u8 0, .int .u8 0, .int .u8 0, .int .u8 0, .bool false, .int .u8 0, .int .u8 0, .int .u8 0, .int .u8 0, .int .u8 0, .int .u8 0, .int .u8 0, .int .u8 0, .int .u8 0, .int .u8 0, .int .u8 0, .int .u8 0, .int .u8 0, .int .u8 0, .int .u8 0, .int .u8 0]) Z9.out Z32.out A.out ?_); (case sg1 => rfl); (case so1 => rfl); (case sx1 => rfl); (case sy1 => rfl)))
  intro W2 hA hF hB
  have K2 := Lib.hid ((K1.out.alloc K1.out.size (.cells #[Value.int .i64 0, .int .i64 0, .int .u8 0, .bool false, .int .u8 0, .int .u8 0, .int .u8 0, .int .u8 0, .int .u8 0, .int .u8 0, .int .u8 0, .int .u8 0, .int .u8 0, .int .u8 0, .int .u8 0, .int .u8 0, .int .u8 0, .int .u8 0, .int .u8 0, .int .u8 0, .bool false, .int .u8 0, .int .u8 0, .int .u8 0, .int .u8 0, .int .u8 0, .int .u8 0, .int .u8 0, .int .u8 0, .int .u8 0, .int .u8 0, .int .u8 0, .int .u8 0, .int .u8 0, .int .u8 0, .int .u8 0, .int .u8 0] 32)).trans (hB _ K1.out.size))
  have hc1 := ((N1.out.alloc (.cells #[Value.int .i64 0, .int .i64 0, .int .u8 0, .bool false, .int .u8 0, .int .u8 0, .int .u8 0, .int .u8 0, .int .u8 0, .int .u8 0, .int .u8 0, .int .u8 0, .int .u8 0, .int .u8 0, .int .u8 0, .int .u8 0, .int .u8 0, .int .u8 0, .int .u8 0, .int .u8 0, .bool false, .int .u8 0, .int .u8 0, .int .u8 0, .int .u8 0, .int .u8 0, .int .u8 0, .int .u8 0, .int .u8 0, .int .u8 0, .int .u8 0, .int .u8 0, .int .u8 0, .int .u8 0, .int .u8 0, .int .u8 0, .int .u8 0] 32)).below (hB _ (Nat.le_refl _)) N1.out.lt).cell 0
  rw [hc0] at hc1
  clear hA hF hB K1 N1
  by_cases hr0 : r = 0
  · obtain rfl : six = true := by rcases h with h | h; exact absurd hr0 h; exact h
    subst hr0
    clear h hc0
    go_wp2
    go_ret
    exact ⟨rfl, K2.out⟩
  · have g0 : ((r : Int) != 0) = true := by simp; omega
    clear h hr0 hc0 hc1
    go_wp2
    go_ret
    exact ⟨rfl, K2.out⟩
theorem set2_ov (B : List Nat) (k v : Nat) (h : k + 2 ≤ B.length) (hv : v < 65536) : (B.set k (v / 256)).set (k + 1) (v % 256) = ov B (bg 2 v) k := by
  refine ext_getD _ _ 0 (by rw [ov_length _ _ _ (by rw [bg_length]; exact h)]; simp) fun i hi => ?_
  have hi : i < B.length := by simpa using hi
  have e : v / 256 % 256 = v / 256 := by omega
  rw [ov_get _ _ _ _ (by rw [bg_length]; exact h), bg_length]
  have h1 : ((B.set k (v / 256)).set (k + 1) (v % 256)).getD i 0 = if k + 1 = i then v % 256 else if k = i then v / 256 else B.getD i 0 := by
    simp only [List.getD_eq_getElem?_getD, List.getElem?_set, List.length_set]
    by_cases e1 : k + 1 = i
    · subst e1
      simp [hi]
    · by_cases e2 : k = i
      · subst e2
        simp [hi]
      · simp [e1, e2]
  rw [h1]
  by_cases e1 : k + 1 = i
  · subst e1
    rw [if_pos rfl, if_pos (by omega), show k + 1 - k = 1 from by omega]; rfl
  · by_cases e2 : k = i
    · subst e2
      rw [if_neg e1, if_pos rfl, if_pos (by omega), Nat.sub_self, ← e]; rfl
    · rw [if_neg e1, if_neg e2, if_neg (by omega)]
theorem ov_step (B T : List Nat) (k j : Nat) (h : k + T.length ≤ B.length) (hj : j < T.length) : (ov B (T.take j) k).set (k + j) (T.getD j 0) = ov B (T.take (j + 1)) k := by
  have l1 : (T.take j).length = j := by simp; omega
  have l2 : (T.take (j + 1)).length = j + 1 := by simp; omega
  refine ext_getD _ _ 0 (by rw [List.length_set, ov_length _ _ _ (by omega), ov_length _ _ _ (by omega)]) fun i hi => ?_
  have hi : i < B.length := by simpa [ov_length _ _ _ (show k + (T.take j).length ≤ B.length by omega)] using hi
  have h1 : ((ov B (T.take j) k).set (k + j) (T.getD j 0)).getD i 0 = if k + j = i then T.getD j 0 else (ov B (T.take j) k).getD i 0 := by
    by_cases e : k + j = i
    · subst e
      rw [if_pos rfl]
      simp only [List.getD_eq_getElem?_getD]
      rw [List.getElem?_set_self (by rw [ov_length _ _ _ (by omega)]; exact hi)]
      rfl
    · rw [if_neg e]
      simp only [List.getD_eq_getElem?_getD]
      rw [List.getElem?_set_ne e]
  rw [h1, ov_get _ _ _ _ (by omega), ov_get _ _ _ _ (by omega), l1, l2]
  have ht : ∀ m q, q < m → (T.take m).getD q 0 = T.getD q 0 := fun m q hq => by simp [List.getD_eq_getElem?_getD, hq]
  by_cases e1 : k + j = i
  · rw [if_pos e1, if_pos (by omega), ht _ _ (by omega)]; congr 1; omega
  · rw [if_neg e1]
    by_cases e2 : k ≤ i ∧ i < k + j
    · rw [if_pos e2, if_pos (by omega), ht _ _ (by omega), ht _ _ (by omega)]
    · rw [if_neg e2, if_neg (by omega)]
theorem ov_nil (B : List Nat) (k : Nat) : ov B [] k = B := by simp [ov]
end Go.Proofs.Ythjaolngfjfldaa

/- bazaarref1.FourDest, where there is an answer. -/
namespace Go.Proofs.Ythjaolngfjfldaa
open Go.RowKit

set_option maxRecDepth 100000 in
set_option maxHeartbeats 4000000 in
theorem rdest_yes (v : Value) (zs : List Nat) (bs : List Nat) (w : World) (hr : Rd w v (nus .u8 zs)) (hb : ∀ c ∈ zs, c < 256) (h : ff zs = 0) (hz : zs.length ≤ 2000) (hl : bs.length = 16) (hbb : ∀ c ∈ bs, c < 256) :
    Calls Try.prog 15 #[v, adr false bs] w fun e w' => ∃ x, e = .returned x ∧ w'.ownsRow w.heap.size 5 1 x zs.length (nus .u8 (dst4 zs (bs.take 4))) ∧ Below w.heap.size w w' := by
  obtain ⟨h20, -, -, -, -, -, -, -⟩ := ff_yes zs h
  obtain ⟨a, cap, rfl, hlc, hlm⟩ := rd_shape hr
  obtain ⟨b, off, rfl, hce⟩ := hr.cells (by omega)
  have hHl : (bs.take 4).length = 4 := by simp; omega
  have hOl : ((zs.drop 16).take 4).length = 4 := by simp; omega
  have hHb : ∀ c ∈ bs.take 4, c < 256 := fun c hc => hbb c (List.mem_of_mem_take hc)
  have CB := Lib.hid (fun w' => rbytes_own false bs hl w')
  unfold bytesA at CB
  rw [if_neg (by decide), hHl] at CB
  unfold adr at CB ⊢
  have CO := Lib.hid (fun w' => rbytes_own false ((zs.drop 16).take 4 ++ List.replicate (16 - ((zs.drop 16).take 4).length) 0) (by simp [hOl]) w')
  unfold bytesA at CO
  have e4 : ((zs.drop 16).take 4 ++ List.replicate (16 - ((zs.drop 16).take 4).length) 0).take 4 = (zs.drop 16).take 4 := by
    rw [List.take_append_of_le_length (by omega), List.take_of_length_le (by omega)]
  have e5 : adr false ((zs.drop 16).take 4 ++ List.replicate (16 - ((zs.drop 16).take 4).length) 0) = .agg (a4 ((zs.drop 16).take 4)) := rfl
  rw [if_neg (by decide), e4, e5, hOl] at CO
  obtain ⟨c, hc⟩ : ∃ c, c = cellsA false bs := ⟨_, rfl⟩
  have hc0 : c[0]? = some (.bool false) := by rw [hc]; exact cellsA_head _ _
  have hcz : c.size = 17 := by rw [hc, cellsA_size, hl]
  rw [← hc] at CB ⊢
  have I := Lib.hid (i24.trans (congrArg some hcz.symm))
  have B0 := (Below.refl w.heap.size w).alloc (Nat.le_refl _) (.cells c 25)
  have HF := Lib.hid (rfour_any _ zs _ (hr.below B0) hb hz)
  rw [h] at HF
  have HN := Lib.hid (Blk.new w 25 c)
  have HB := Lib.hid B0
  have HR := Lib.hid hr
  have C16 := Lib.hid (fun w' (h : Rd w' (.slice (some ⟨b, off, none⟩) zs.length cap) (nus .u8 zs)) => (be16_any _ _ _ 10 zs w' h hb (by omega)).mono fun e w1 hh => show e = .returned (.int .i64 (u2 zs 10 : Nat)) ∧ Below w'.heap.size w' w1 from ⟨hh.1, by obtain ⟨k, rfl⟩ := hh.2; exact below_drewN (Below.refl _ _) k⟩)
  have CG := Lib.hid (fun w' z1 z2 (h1 : Rd w' z1 (nus .u8 ((zs.drop 16).take 4))) (h2 : Rd w' z2 (nus .u8 (bs.take 4))) => (rchange_any (u2 zs 10) z1 z2 _ _ w' h1 h2 (by omega) (by omega) (fun c hc => hb c (List.mem_of_mem_drop (List.mem_of_mem_take hc))) hHb (u2_lt zs 10 hb)).mono fun e w1 hh => show e = .returned (.int .i64 (chA (u2 zs 10) ((zs.drop 16).take 4) (bs.take 4) : Nat)) ∧ Below w'.heap.size w' w1 from ⟨hh.1, by obtain ⟨k, rfl⟩ := hh.2; exact below_drewN (Below.refl _ _) k⟩)
  have hV : chA (u2 zs 10) ((zs.drop 16).take 4) (bs.take 4) < 65536 := chA_lt _ _ _ (u2_lt zs 10 hb)
  have HS2 := Lib.hid (set2_ov zs 10 (chA (u2 zs 10) ((zs.drop 16).take 4) (bs.take 4)) (by omega) hV)
  have HD : Hid (dst4 zs (bs.take 4) = ov (ov zs (bg 2 (chA (u2 zs 10) ((zs.drop 16).take 4) (bs.take 4))) 10) (bs.take 4) 16) := rfl
  have HZL : Hid ((ov zs (bg 2 (chA (u2 zs 10) ((zs.drop 16).take 4) (bs.take 4))) 10).length = zs.length) := ov_length _ _ _ (by rw [bg_length]; omega)
  have HHl := Lib.hid hHl
  have HHB := Lib.hid (getD_lt _ hHb)
  have hsz := hd_size' zs
  have hPart : ((hd zs).toList.drop 20).take (a4 ((zs.drop 16).take 4)).toList.length = (a4 ((zs.drop 16).take 4)).toList := by
    have e : hd zs = hcells (hs zs) (u2 zs 2) (zs.getD 9 0) (a4 ((zs.drop 12).take 4)) (a4 ((zs.drop 16).take 4)) := by unfold hd; rw [if_pos h]
    rw [e]
    exact hcells_dst _ _ _ _ _ (a4_size _ (by simp; omega))
  have hDz := a4_size ((zs.drop 16).take 4) (by omega)
  have ID := Lib.hid (i24.trans (congrArg some (show (17 : Nat) = (a4 ((zs.drop 16).take 4)).toList.length by simp [hDz])))
  have Z32 := Lib.hid (i32.trans (congrArg some hsz.symm))
  have Z9 : Hid ((hd zs).size = Array.size (#[Value.int .i64 0, .int .i64 0, .int .u8 0, .bool false, .int .u8 0, .int .u8 0, .int .u8 0, .int .u8 0, .int .u8 0, .int .u8 0, .int .u8 0, .int .u8 0, .int .u8 0, .int .u8 0, .int .u8 0, .int .u8 0, .int .u8 0, .int .u8 0, .int .u8 0, .int .u8 0, .bool false, .int .u8 0, .int .u8 0, .int .u8 0, .int .u8 0, .int .u8 0, .int .u8 0, .int .u8 0, .int .u8 0, .int .u8 0, .int .u8 0, .int .u8 0, .int .u8 0, .int .u8 0, .int .u8 0, .int .u8 0, .int .u8 0] : Array Value)) := hsz
  have A := Lib.hid (hd_all zs)
  have HP := Lib.hid hPart
  generalize dst4 zs (bs.take 4) = RES at *
  generalize ov zs (bg 2 (chA (u2 zs 10) ((zs.drop 16).take 4) (bs.take 4))) 10 = PR at *
  generalize chA (u2 zs 10) ((zs.drop 16).take 4) (bs.take 4) = V at *
  generalize a4 ((zs.drop 16).take 4) = D at *
  generalize (zs.drop 16).take 4 = OD at *
  generalize bs.take 4 = T at *
  generalize u2 zs 10 = O at *
  generalize hd zs = hdc at *
  have HNz := Lib.hid (show zs.length ≤ 2000 from hz)
  obtain ⟨n, hn⟩ : ∃ n, n = zs.length := ⟨_, rfl⟩
  rw [← hn] at HF HR C16 HZL hlc h20 HNz ⊢
  have hnm : n ≤ maxLen := by omega
  have hn2 : n ≤ 2000 := HNz.out
  have HN9 := Lib.hid hn
  unfold maxLen at hlm
  clear e4 e5 hr hb hc B0 hcz hce h hz hl hbb hHl hOl hHb hn hsz hPart hDz
  go_enter Try.func15, Try.ntmps15
  go_wp2_with fail
  refine HF.out.mono ?_; rintro e W1 ⟨rfl, hb⟩
  have N1 := Lib.hid (HN.out.below hb HN.out.lt)
  have K1 := Lib.hid (HB.out.trans (hb.mono HB.out.size))
  clear hb HN HB HF
  go_wp2_with (((with_reducible refine wpList_blk_store (op := ⟨none, .store 32 (.tmp 5) (.tmp 13), _, _, _, _⟩) ?sg1 32 (.tmp 5) (.tmp 13) ?so1 (W1.heap.size) hdc ?sx1 ?sy1 (Blk.new W1 32 #[Value.int .i64 0, .int .i64 0, .int .u8 0, .bool false, .int .u8 0, .int .u8 0, .int .u8 0, .int .u8 0, .int .u8 0, .int .u8 0, .int .u8 0, .int .u8 0, .int .u8 0, .int .u8 0, .int .u8 0, .int .u8 0, .int .u8 0, .int .u8 0, .int .u8 0, .int .u8 0, .bool false, .int .u8 0, .int .u8 0, .int .u8 0, .int .u8 0, .int .u8 0, .int .u8 0, .int .u8 0, .int .u8 0, .int .u8 0, .int .u8 0, .int .u8 0, .int .u8 0, .int .u8 0, .int .u8 0, .int .u8 0, .int .u8 0]) Z9.out Z32.out A.out ?_); (case sg1 => rfl); (case so1 => rfl); (case sx1 => rfl); (case sy1 => rfl)))
  intro W2 hA hF hB
  have K2 := Lib.hid ((K1.out.alloc K1.out.size (.cells #[Value.int .i64 0, .int .i64 0, .int .u8 0, .bool false, .int .u8 0, .int .u8 0, .int .u8 0, .int .u8 0, .int .u8 0, .int .u8 0, .int .u8 0, .int .u8 0, .int .u8 0, .int .u8 0, .int .u8 0, .int .u8 0, .int .u8 0, .int .u8 0, .int .u8 0, .int .u8 0, .bool false, .int .u8 0, .int .u8 0, .int .u8 0, .int .u8 0, .int .u8 0, .int .u8 0, .int .u8 0, .int .u8 0, .int .u8 0, .int .u8 0, .int .u8 0, .int .u8 0, .int .u8 0, .int .u8 0, .int .u8 0, .int .u8 0] 32)).trans (hB _ K1.out.size))
  have n2 := (N1.out.alloc (.cells #[Value.int .i64 0, .int .i64 0, .int .u8 0, .bool false, .int .u8 0, .int .u8 0, .int .u8 0, .int .u8 0, .int .u8 0, .int .u8 0, .int .u8 0, .int .u8 0, .int .u8 0, .int .u8 0, .int .u8 0, .int .u8 0, .int .u8 0, .int .u8 0, .int .u8 0, .int .u8 0, .bool false, .int .u8 0, .int .u8 0, .int .u8 0, .int .u8 0, .int .u8 0, .int .u8 0, .int .u8 0, .int .u8 0, .int .u8 0, .int .u8 0, .int .u8 0, .int .u8 0, .int .u8 0, .int .u8 0, .int .u8 0, .int .u8 0] 32)).below (hB _ (Nat.le_refl _)) N1.out.lt
  have hc1 := n2.cell 0
  rw [hc0] at hc1
  have N2 := Lib.hid n2
  have A2 := Lib.hid hA
  have ha2 := hA.lt
  have hn2' := n2.lt
  have R2 := Lib.hid (HR.out.below K2.out)
  clear hA hF hB K1 N1 hc0 n2 Z9 Z32 A HR
  have o3 := own_none W2 5
  have b3 := (Below.refl W2.heap.size W2).alloc (Nat.le_refl _) (.cells #[] 5)
  have O3 := Lib.hid o3
  have K3 := Lib.hid b3
  have R3 := Lib.hid (R2.out.below b3)
  clear o3 b3
  go_wp2_with (at_builtin; refine wpList_app rfl (.tmp 21) (.tmp 22) rfl W2.heap.size _ 0 [] rfl O3.out (some _) n cap zs rfl R3.out ?c1 ?c2 ?c3 ?c4)
  case c1 => intro e; cases e
  case c2 => omega
  case c3 => exact K3.out.size
  intro v4 W4 o4 g4
  have K4 := Lib.hid (K3.out.grown g4 K3.out.size (fun k e => (O3.out.lt k e).1))
  have O4 := Lib.hid (show W4.ownsRow W2.heap.size 5 1 v4 n (nus .u8 zs) from by simpa using o4)
  obtain ⟨g, cap2, rfl, hc2, hcm2, hgl, hgu⟩ := own_at O4.out (by omega)
  clear o4 g4 O3 K3 R3 hc1
  go_wp2_with (((with_reducible refine wpList_blk_load (op := ⟨some 24, .load 25 (.tmp 3), _, _, _, _⟩) ?lg2 25 (.tmp 3) ?lo2 (w.heap.size) ?lx2 _ (N2.out.below K4.out hn2') Try.underlying25 ?ld2 I.out ?_); (case lg2 => rfl); (case lo2 => rfl); (case lx2 => rfl); (case ld2 => rfl)))
  refine (CB.out W4).mono ?_
  rintro e W5 ⟨z1, rfl, hz1, hy⟩
  have K5 := Lib.hid (K4.out.trans (hy.mono K4.out.size))
  have O5 := Lib.hid (row_under O4.out hy)
  have T5 := Lib.hid hz1
  clear hy hz1 O4 K4 CB
  go_wp2_with fail
  refine wp_region_held (S := (fun w' : World => Below W2.heap.size W2 w')) (by kernel_rfl) ?_
  change wpAnyH _ _ _ _ _ _ _ _ W5.drew
  have hE0 : Below W2.heap.size W2 W5.drew := K5.out.drew
  have qO6 := row_under O5.out (show Below W5.heap.size W5 W5.drew from (Below.refl _ _).drew)
  have qT6 := row_under T5.out (show Below W5.heap.size W5 W5.drew from (Below.refl _ _).drew)
  generalize W5.drew = Y0 at hE0 qO6 qT6 ⊢
  have E0 := Lib.hid hE0
  have O6 := Lib.hid qO6
  have T6 := Lib.hid qT6
  clear hE0 qO6 qT6
  refine wpAnyH_take (i := 0) (oi := { dst := some 26, op := Op.move (Operand.tmp 7), type := 22, pos := "frame.go:216", after := #[], guard := none }) (v := ?_) rfl (by kernel_rfl) (by kernel_rfl) (by kernel_rfl) (fun _ _ _ h => h) (Or.inl ⟨by rfl, ?_⟩) E0.out ?_
  rotate_left
  · (intro w1 hS; go_simp; try with_reducible rfl)
  simp only [Act.put, List.setIfInBounds_toArray, List.set_cons_zero, List.set_cons_succ]
  refine wpAnyH_take (i := 1) (oi := { dst := some 27, op := Op.move (Operand.tmp 0), type := 22, pos := "frame.go:216", after := #[], guard := none }) (v := ?_) rfl (by kernel_rfl) (by kernel_rfl) (by kernel_rfl) (fun _ _ _ h => h) (Or.inl ⟨by rfl, ?_⟩) E0.out ?_
  rotate_left
  · (intro w1 hS; go_simp; try with_reducible rfl)
  simp only [Act.put, List.setIfInBounds_toArray, List.set_cons_zero, List.set_cons_succ]
  refine wpAnyH_take (i := 3) (oi := { dst := some 29, op := Op.fieldAddr 32 (Operand.tmp 5) 4, type := 0, pos := "frame.go:216", after := #[], guard := none }) (v := ?_) rfl (by kernel_rfl) (by kernel_rfl) (by kernel_rfl) (fun _ _ _ h => h) (Or.inl ⟨by rfl, ?_⟩) E0.out ?_
  rotate_left
  · (intro w1 hS; go_simp; try with_reducible rfl)
  simp only [Act.put, List.setIfInBounds_toArray, List.set_cons_zero, List.set_cons_succ]
  refine wpAnyH_take (i := 4) (oi := { dst := some 30, op := Op.load 25 (Operand.tmp 29), type := 25, pos := "frame.go:216", after := #[{ on := 3, ground := Ground.data }], guard := none }) (v := .agg D) rfl (by kernel_rfl) (by kernel_rfl) (by kernel_rfl) (fun _ _ _ h => h) (Or.inl ⟨by rfl, ?_⟩) E0.out ?_
  · (intro w1 hS; have hW := hS; exact exec_load 25 (.tmp 29) rfl _ rfl _ (run_part_load (P := Try.prog) 25 20 D.toList _ (A2.out.below hW ha2) HP.out Try.underlying25 rfl ID.out))
  simp only [Act.put, List.setIfInBounds_toArray, List.set_cons_zero, List.set_cons_succ]
  refine wpAnyH_take (i := 6) (oi := { dst := some 32, op := Op.move (Operand.tmp 8), type := 22, pos := "frame.go:216", after := #[], guard := none }) (v := ?_) rfl (by kernel_rfl) (by kernel_rfl) (by kernel_rfl) (fun _ _ _ h => h) (Or.inl ⟨by rfl, ?_⟩) E0.out ?_
  rotate_left
  · (intro w1 hS; go_simp; try with_reducible rfl)
  simp only [Act.put, List.setIfInBounds_toArray, List.set_cons_zero, List.set_cons_succ]
  refine wpAnyH_ready (rs := [2]) (by kernel_rfl) (by simp) ?_
  refine AllReadyH.cons (o := { dst := some 28, op := Op.call { callee := Callee.value (Operand.func 24), args := #[Operand.tmp 27, Operand.const (Value.int IntKind.i64 10)], argTypes := #[22, 3] }, type := 3, pos := "frame.go:216", after := #[{ on := 1, ground := Ground.data }], guard := none }) rfl (fun K hK => ?_) AllReadyH.nil
  go_simp
  refine (C16.out Y0 (R2.out.below E0.out)).mono ?_
  rintro e Y1 ⟨rfl, hy⟩
  have E1 := Lib.hid (E0.out.trans (hy.mono (Nat.le_trans (Nat.le_refl _) E0.out.size)))
  have C1 := Lib.hid E1.out
  have O7 := Lib.hid (row_under O6.out hy)
  have T7 := Lib.hid (row_under T6.out hy)
  clear O6 T6
  clear hy E0
  refine hK.out _ _ C1.out (fun _ => ?_)
  clear hK K
  try simp only [Act.put, List.setIfInBounds_toArray, List.set_cons_zero, List.set_cons_succ]
  clear C1
  refine wpAnyH_ready (rs := [5]) (by kernel_rfl) (by simp) ?_
  refine AllReadyH.cons (o := { dst := some 31, op := Op.call { callee := Callee.value (Operand.func 32), args := #[Operand.tmp 30], argTypes := #[25] }, type := 22, pos := "frame.go:216", after := #[{ on := 4, ground := Ground.data }, { on := 2, ground := Ground.chain }], guard := none }) rfl (fun K hK => ?_) AllReadyH.nil
  go_simp
  refine (CO.out Y1).mono ?_
  rintro e Y2 ⟨z2, rfl, hz2, hy⟩
  have E2 := Lib.hid (E1.out.trans (hy.mono (Nat.le_trans (Nat.le_refl _) E1.out.size)))
  have C2 := Lib.hid E2.out
  have O8 := Lib.hid (row_under O7.out hy)
  have T8 := Lib.hid (row_under T7.out hy)
  have D8 := Lib.hid hz2
  clear O7 T7 hz2
  clear hy E1
  refine hK.out _ _ C2.out (fun _ => ?_)
  clear hK K
  try simp only [Act.put, List.setIfInBounds_toArray, List.set_cons_zero, List.set_cons_succ]
  clear C2
  refine wpAnyH_ready (rs := [7]) (by kernel_rfl) (by simp) ?_
  refine AllReadyH.cons (o := { dst := some 33, op := Op.call { callee := Callee.value (Operand.func 33), args := #[Operand.tmp 28, Operand.tmp 31, Operand.tmp 32], argTypes := #[3, 22, 22] }, type := 3, pos := "frame.go:216", after := #[{ on := 2, ground := Ground.data }, { on := 5, ground := Ground.data }, { on := 6, ground := Ground.data }, { on := 5, ground := Ground.chain }], guard := none }) rfl (fun K hK => ?_) AllReadyH.nil
  go_simp
  refine (CG.out Y2 z2 z1 (Rd.own D8.out) (Rd.own T8.out)).mono ?_
  rintro e Y3 ⟨rfl, hy⟩
  have E3 := Lib.hid (E2.out.trans (hy.mono (Nat.le_trans (Nat.le_refl _) E2.out.size)))
  have C3 := Lib.hid E3.out
  have O9 := Lib.hid (row_under O8.out hy)
  have T9 := Lib.hid (row_under T8.out hy)
  clear O8 T8 D8
  clear hy E2
  refine hK.out _ _ C3.out (fun _ => ?_)
  clear hK K
  try simp only [Act.put, List.setIfInBounds_toArray, List.set_cons_zero, List.set_cons_succ]
  clear C3
  refine wpAnyH_ready (rs := [8]) (by kernel_rfl) (by simp) ?_
  refine AllReadyH.cons (o := { dst := some 34, op := Op.call { callee := Callee.value (Operand.func 29), args := #[Operand.tmp 26, Operand.const (Value.int IntKind.i64 10), Operand.tmp 33], argTypes := #[22, 3, 3] }, type := 0, pos := "frame.go:216", after := #[{ on := 0, ground := Ground.data }, { on := 7, ground := Ground.data }, { on := 7, ground := Ground.chain }], guard := none }) rfl (fun K hK => ?_) AllReadyH.nil
  go_simp
  refine (rput16_any g n cap2 W2.heap.size 10 V zs Y3 O9.out hnm (by omega) hV).mono ?_
  rintro e Y4 ⟨rfl, o6, g6⟩
  rw [HS2.out] at o6
  have OA := Lib.hid o6
  have b6 := E3.out.grown g6 E3.out.size (fun k e => by cases e; exact hgl)
  have KA := Lib.hid b6
  have TA := Lib.hid (own_apart T9.out g6 hgu)
  refine hK.out _ _ KA.out (fun _ => ?_)
  clear hK K o6 g6 b6 E3 O9 T9
  try simp only [Act.put, List.setIfInBounds_toArray, List.set_cons_zero, List.set_cons_succ]
  refine wpAnyH_done (by kernel_rfl) ?_ _
  have HZL2 := HZL
  clear CG C16 CO HS2 HP ID A2 N2 R2 T5 O5 K5 HNz HN9
  go_wp2
  go_loopw [9] (fun i wr => ∃ k : Nat, k ≤ 4 ∧ i = .int .i64 (k : Int) ∧ Hid (wr.ownsRow W2.heap.size 5 1 (.slice (some ⟨g, 0, none⟩) n cap2) n (nus .u8 (ov PR (T.take k) 16))) ∧ Hid (wr.ownsRow W4.heap.size 5 1 z1 4 (nus .u8 T)) ∧ Hid (Below W2.heap.size W2 wr)) (fun i _ => 4 - (RowKit.intOf i).toNat)
  case atStart => exact ⟨0, by omega, rfl, by show World.ownsRow _ _ _ _ _ _ _; rw [List.take_zero, ov_nil]; exact OA.out, TA, KA⟩
  case round =>
    obtain ⟨k, hk4, rfl, hO, hT, hK⟩ := hrel
    clear OA TA KA
    obtain ⟨gz, cz, rfl, -, -, -, -⟩ := own_at hT.out (by omega)
    have hol : ∀ j, j ≤ 4 → (ov PR (T.take j) 16).length = n := fun j hj => by rw [ov_length _ _ _ (by rw [HZL2.out]; simp; omega), HZL2.out]
    have HOL := Lib.hid hol
    clear hol
    by_cases hlt : k < 4
    · have s1 := hT.out.cellAt k (by omega)
      rw [nus_get _ _ _ (by rw [HHl.out]; exact hlt)] at s1
      have hx := HHB.out k
      have t1 := hO.out.cellAt (16 + k) (by omega)
      rw [nus_get _ _ _ (by rw [HOL.out k (by omega)]; omega)] at t1
      have f1 := hO.out.frozenAt (16 + k)
      have q1 := hO.out.stored (16 + k) (.int .u8 ((T.getD k 0 : Nat) : Int))
      rw [nus_set, ov_step PR T 16 k (by rw [HZL2.out, HHl.out]; omega) (by rw [HHl.out]; exact hlt)] at q1
      have Q := Lib.hid q1.1
      have QT := Lib.hid (own_apart hT.out q1.2 hgu)
      have KK := Lib.hid (hK.out.grown q1.2 hK.out.size (fun k e => by cases e; exact hgl))
      clear q1
      generalize (ov PR (T.take k) 16).getD (16 + k) 0 = y1 at t1
      generalize T.getD k 0 = x1 at *
      have a2 : IntKind.i64.wrap (16 + (k : Int)) = 16 + (k : Int) := by rw [IntKind.wrap_i64]; omega
      have b2 : (0 : Int) ≤ 16 + (k : Int) ∧ 16 + (k : Int) < (n : Int) := by omega
      have d2 : ((16 : Int) + (k : Int)).toNat = 16 + k := by omega
      have e2 : 16 + k < n := by omega
      go_wp2
      go_roundw
      case rel => exact ⟨k + 1, by omega, by go_num, Q, QT, KK⟩
      case measure => simp [RowKit.intOf]; omega
    · obtain rfl : k = 4 := by omega
      have O4 := Lib.hid (show wr.ownsRow W2.heap.size 5 1 (.slice (some ⟨g, 0, none⟩) n cap2) n (nus .u8 RES) from by rw [HD.out]; have := hO.out; rwa [List.take_of_length_le (Nat.le_of_eq HHl.out)] at this)
      have K4 := hK
      clear hO hT hK hlt
      go_wp2
      go_ret
      exact ⟨_, rfl, own_low K2.out.size O4.out, K2.out.trans (K4.out.mono K2.out.size)⟩
end Go.Proofs.Ythjaolngfjfldaa

/- bazaarref1.FourMake. -/
namespace Go.Proofs.Ythjaolngfjfldaa
open Go.RowKit

/-- The header, so many bytes of each address written. -/
def rowj (P S D : List Nat) (j : Nat) : List Nat := (List.range 20).map fun i => if 12 ≤ i ∧ i < 12 + j then S.getD (i - 12) 0 else if 16 ≤ i ∧ i < 16 + j then D.getD (i - 16) 0 else P.getD i 0
theorem rowj_length (P S D : List Nat) (j : Nat) : (rowj P S D j).length = 20 := by simp [rowj]
theorem rowj_get (P S D : List Nat) (j i : Nat) (h : i < 20) : (rowj P S D j).getD i 0 = if 12 ≤ i ∧ i < 12 + j then S.getD (i - 12) 0 else if 16 ≤ i ∧ i < 16 + j then D.getD (i - 16) 0 else P.getD i 0 := by
  simp [rowj, List.getD_eq_getElem?_getD, h]
theorem rowj_zero (P S D : List Nat) (h : P.length = 20) : rowj P S D 0 = P := by
  refine ext_getD _ _ 0 (by rw [rowj_length, h]) fun i hi => ?_
  rw [rowj_length] at hi
  rw [rowj_get P S D 0 i hi, if_neg (by omega), if_neg (by omega)]
theorem set_get (l : List Nat) (k i v : Nat) (h : i < l.length) : (l.set k v).getD i 0 = if k = i then v else l.getD i 0 := by
  simp only [List.getD_eq_getElem?_getD, List.getElem?_set]
  by_cases e : k = i
  · subst e
    rw [if_pos rfl, if_pos rfl, if_pos h]; rfl
  · rw [if_neg e, if_neg e]
theorem rowj_step (P S D : List Nat) (j : Nat) (h : j < 4) : ((rowj P S D j).set (12 + j) (S.getD j 0)).set (16 + j) (D.getD j 0) = rowj P S D (j + 1) := by
  refine ext_getD _ _ 0 (by simp [rowj_length]) fun i hi => ?_
  have hi : i < 20 := by simpa [rowj_length] using hi
  rw [set_get _ _ _ _ (by simp [rowj_length]; exact hi), set_get _ _ _ _ (by simp [rowj_length]; exact hi), rowj_get P S D j i hi, rowj_get P S D (j + 1) i hi]
  repeat' split
  all_goals first
    | rfl
    | (exfalso; omega)
    | (congr 1; omega)
theorem take4 (l : List Nat) (h : l.length = 16) : ∃ a b c d, l.take 4 = [a, b, c, d] ∧ l.getD 0 0 = a ∧ l.getD 1 0 = b ∧ l.getD 2 0 = c ∧ l.getD 3 0 = d := by
  obtain ⟨b0, b1, b2, b3, b4, b5, b6, b7, b8, b9, b10, b11, b12, b13, b14, b15, rfl⟩ := list16 l h
  exact ⟨b0, b1, b2, b3, rfl, rfl, rfl, rfl, rfl⟩
theorem rowj_all (sb db : List Nat) (p n : Nat) (h1 : sb.length = 16) (h2 : db.length = 16) (hn : n ≤ 65515) :
    rowj ((((((List.replicate 20 0).set 0 69).set 2 ((20 + n) / 256)).set (2 + 1) ((20 + n) % 256)).set 6 64).set 8 64 |>.set 9 p) sb db 4 = mk0 (sb.take 4) (db.take 4) p n := by
  obtain ⟨s0, s1, s2, s3, e1, a0, a1, a2, a3⟩ := take4 sb h1
  obtain ⟨d0, d1, d2, d3, e2, b0, b1, b2, b3⟩ := take4 db h2
  have e : (20 + n) / 256 % 256 = (20 + n) / 256 := by omega
  rw [e1, e2]
  unfold rowj
  simp [List.range_succ, mk0, bg, e, ← a0, ← a1, ← a2, ← a3, ← b0, ← b1, ← b2, ← b3]

set_option maxHeartbeats 1000000 in
theorem rmake_no (six1 six2 : Bool) (sb db : List Nat) (p : Int) (n : Int) (w : World) (h : ¬ mkOk six1 six2 n) :
    Calls Try.prog 12 #[adr six1 sb, adr six2 db, .int .u8 p, .int .i64 n] w fun e w' => e = .returned (.tuple #[.slice none 0 0, .bool false]) ∧ Below w.heap.size w w' := by
  unfold adr
  have e1 : (cellsA six1 sb)[0]? = some (.bool six1) := cellsA_head _ _
  have e2 : (cellsA six2 db)[0]? = some (.bool six2) := cellsA_head _ _
  generalize cellsA six1 sb = c1 at *
  generalize cellsA six2 db = c2 at *
  have B1 := (Below.refl w.heap.size w).alloc (Nat.le_refl _) (.cells c1 25)
  have HB := Lib.hid (B1.alloc B1.size (.cells c2 25))
  have hc1 := (((Blk.new w 25 c1).alloc (.cells c2 25)).cell 0).trans e1
  have hc2 := ((Blk.new (w.alloc (.cells c1 25)) 25 c2).cell 0).trans e2
  rw [World.size_alloc] at hc2
  unfold mkOk at h
  clear e1 e2 B1
  go_enter Try.func12, Try.ntmps12
  cases six1 with
  | true =>
    clear h
    go_wp2
    go_ret2
    exact ⟨rfl, HB.out⟩
  | false =>
    cases six2 with
    | true =>
      clear h
      go_wp2
      go_ret2
      exact ⟨rfl, HB.out⟩
    | false =>
      by_cases h0 : n < 0
      · clear h
        go_wp2
        go_ret2
        exact ⟨rfl, HB.out⟩
      · have h5 : 65515 < n := by
          rcases Int.lt_or_le 65515 n with h' | h'
          · exact h'
          · exact absurd ⟨rfl, rfl, by omega, h'⟩ h
        clear h
        go_wp2
        go_ret2
        exact ⟨rfl, HB.out⟩

set_option maxRecDepth 100000 in
set_option maxHeartbeats 4000000 in
theorem rmake_yes (sb db : List Nat) (p n : Nat) (w : World) (hl1 : sb.length = 16) (hl2 : db.length = 16) (hb1 : ∀ c ∈ sb, c < 256) (hb2 : ∀ c ∈ db, c < 256) (hp : p < 256) (hn : n ≤ 65515) :
    Calls Try.prog 12 #[adr false sb, adr false db, .int .u8 (p : Int), .int .i64 (n : Int)] w fun e w' => ∃ x, e = .returned (.tuple #[x, .bool true]) ∧ w'.ownsRow w.heap.size 5 1 x 20 (nus .u8 (mk4 (sb.take 4) (db.take 4) p n)) ∧ Below w.heap.size w w' := by
  have l1 : (sb.take 4).length = 4 := by simp [hl1]
  have l2 : (db.take 4).length = 4 := by simp [hl2]
  unfold adr
  have e1 : (cellsA false sb)[0]? = some (.bool false) := cellsA_head _ _
  have e2 : (cellsA false db)[0]? = some (.bool false) := cellsA_head _ _
  have G1 := Lib.hid (fun k (hk : k < 4) => cellsA_get false sb k (by omega))
  have G2 := Lib.hid (fun k (hk : k < 4) => cellsA_get false db k (by omega))
  have HM := Lib.hid (rowj_all sb db p n hl1 hl2 hn)
  have HML := Lib.hid (mk0_length (sb.take 4) (db.take 4) l1 l2 p n)
  have HMB := Lib.hid (mk0_lt (sb.take 4) (db.take 4) p n (fun c hc => hb1 c (List.mem_of_mem_take hc)) (fun c hc => hb2 c (List.mem_of_mem_take hc)) hp)
  have hck := ck_le (mk0 (sb.take 4) (db.take 4) p n)
  have hmd : ∀ M : List Nat, M.length = 20 → ck M < 65536 → (M.set 10 (ck M / 256)).set (10 + 1) (ck M % 256) = ov M (bg 2 (ck M)) 10 := fun M hM hc => by
    refine ext_getD _ _ 0 (by simp [ov_length, bg_length, hM]) fun i hi => ?_
    have hi : i < 20 := by simpa [hM] using hi
    rw [set_get _ _ _ _ (by simp [hM]; exact hi), set_get _ _ _ _ (by rw [hM]; exact hi), ov_get _ _ _ _ (by rw [bg_length, hM]; omega), bg_length]
    have e : ck M / 256 % 256 = ck M / 256 := by omega
    by_cases h1 : i = 10
    · subst h1; simp [bg, e]
    · by_cases h2 : i = 11
      · subst h2; simp [bg]
      · rw [if_neg (by omega), if_neg (by omega), if_neg (by omega)]
  have HR : Hid (mk4 (sb.take 4) (db.take 4) p n = ((mk0 (sb.take 4) (db.take 4) p n).set 10 (ck (mk0 (sb.take 4) (db.take 4) p n) / 256)).set (10 + 1) (ck (mk0 (sb.take 4) (db.take 4) p n) % 256)) := by
    show _ = _
    rw [hmd _ HML.out (by omega)]; rfl
  have HD1 := Lib.hid (getD_lt sb hb1)
  have HD2 := Lib.hid (getD_lt db hb2)
  generalize mk4 (sb.take 4) (db.take 4) p n = RES at *
  generalize mk0 (sb.take 4) (db.take 4) p n = M at *
  generalize cellsA false sb = c1 at *
  generalize cellsA false db = c2 at *
  have B1 := (Below.refl w.heap.size w).alloc (Nat.le_refl _) (.cells c1 25)
  have KA := B1.alloc B1.size (.cells c2 25)
  have n1 := (Blk.new w 25 c1).alloc (.cells c2 25)
  have n2 := Blk.new (w.alloc (.cells c1 25)) 25 c2
  rw [World.size_alloc] at n2
  have hc1 := (n1.cell 0).trans e1
  have hc2 := (n2.cell 0).trans e2
  have N1 := Lib.hid n1
  have N2 := Lib.hid n2
  have K0 := Lib.hid KA
  have hbase := K0.out.size
  obtain ⟨i0, hi, hz0, hz1, hz2⟩ := info_parts Try.info5
  have hnw : (20 + (n : Int)) = ((20 + n : Nat) : Int) := by omega
  clear e1 e2 l1 l2 hl1 hl2 hb1 hb2 B1 KA n1 n2 hmd hnw
  go_enter Try.func12, Try.ntmps12
  go_wp2_with (at_make; refine wpList_make_full _ rfl _ _ 22 rfl w.heap.size 5 i0 (.int .u8 0) 1 Try.underlying22 hi hz0 hz1 .i64 .i64 _ _ 20 rfl rfl ?c1 ?c2 ?c3 ?c4 hbase ?_)
  case c1 => omega
  case c2 => omega
  case c3 => rw [hz2]; omega
  case c4 => unfold maxLen; omega
  intro w1 o1 g1
  rw [toList_madeCells_one] at o1
  have O1 := Lib.hid (show w1.ownsRow w.heap.size 5 1 _ 20 (nus .u8 (List.replicate 20 0)) from o1)
  have K1 := Lib.hid (K0.out.grown g1 hbase (fun k hk => by cases hk))
  obtain ⟨g, hg⟩ : ∃ g, g = w.heap.size + 1 + 1 := ⟨_, rfl⟩
  rw [← hg] at O1 ⊢
  have hgl : w.heap.size ≤ g := by omega
  have hg1 : w.heap.size < g := by omega
  have hg2 : w.heap.size + 1 < g := by omega
  have N1 := Lib.hid (show Blk w1 w.heap.size 25 c1 from (g1.block _ N1.out.lt (by simp)).trans N1.out)
  have N2 := Lib.hid (show Blk w1 (w.heap.size + 1) 25 c2 from (g1.block _ N2.out.lt (by simp)).trans N2.out)
  have hgw : g ≤ w1.heap.size := Nat.le_of_lt (own_in O1.out)
  clear o1 g1 hi hz0 hz1 hz2 hg hc1 hc2
  have h20m : 20 ≤ maxLen := by simp [maxLen]
  have c0 := O1.out.cellAt 0 (by omega)
  rw [nus_get _ _ _ (by simp)] at c0
  have f0 := O1.out.frozenAt 0
  have hst := O1.out.stored 0 (.int .u8 ((69 : Nat) : Int))
  rw [nus_set] at hst
  have HST := Lib.hid (show (w1.setCell ⟨g, 0, none⟩ (.int .u8 69)).ownsRow w.heap.size 5 1 (.slice (some ⟨g, 0, none⟩) 20 20) 20 (nus .u8 ((List.replicate 20 0).set 0 69)) ∧ w1.grownBy (w1.setCell ⟨g, 0, none⟩ (.int .u8 69)) (some g) from hst)
  clear hst
  go_wp2_with fail
  have O2 := Lib.hid HST.out.1
  have K2 := Lib.hid ((Below.refl g w1).grown HST.out.2 hgw (fun k e => by cases e; exact Nat.le_refl _))
  generalize w1.setCell ⟨g, 0, none⟩ (.int .u8 69) = w2 at O2 K2 ⊢
  clear HST c0 f0 O1
  refine (rput16_any g 20 20 w.heap.size 2 (20 + n) _ w2 O2.out h20m (by omega) (by omega)).mono ?_
  rintro e w3 ⟨rfl, o3, g3⟩
  have O3 := Lib.hid o3
  have K3 := Lib.hid (K2.out.grown g3 (Nat.le_trans hgw K2.out.size) (fun k e => by cases e; exact Nat.le_refl _))
  clear o3 g3 O2 K2
  obtain ⟨Z, hZ⟩ : ∃ Z, Z = (((List.replicate 20 0).set 0 69).set 2 ((20 + n) / 256)).set (2 + 1) ((20 + n) % 256) := ⟨_, rfl⟩
  have HZL : Hid (Z.length = 20) := by
    show _ = _
    rw [hZ]; simp
  rw [← hZ] at O3 HM
  clear hZ
  have c6 := O3.out.cellAt 6 (by omega)
  have c8 := O3.out.cellAt 8 (by omega)
  have c9 := O3.out.cellAt 9 (by omega)
  rw [nus_get _ _ _ (by rw [HZL.out]; omega)] at c6 c8 c9
  have f6 := O3.out.frozenAt 6
  have f8 := O3.out.frozenAt 8
  have f9 := O3.out.frozenAt 9
  have h6 := O3.out.stored 6 (.int .u8 ((64 : Nat) : Int))
  rw [nus_set] at h6
  have h8 := h6.1.stored 8 (.int .u8 ((64 : Nat) : Int))
  rw [nus_set] at h8
  have h9 := h8.1.stored 9 (.int .u8 (p : Int))
  rw [nus_set] at h9
  have k6 := K3.out.grown h6.2 (Nat.le_trans hgw K3.out.size) (fun k e => by cases e; exact Nat.le_refl _)
  have k8 := k6.grown h8.2 (Nat.le_trans hgw k6.size) (fun k e => by cases e; exact Nat.le_refl _)
  have k9 := k8.grown h9.2 (Nat.le_trans hgw k8.size) (fun k e => by cases e; exact Nat.le_refl _)
  have H9 := Lib.hid (show (((w3.setCell ⟨g, 6, none⟩ (.int .u8 64)).setCell ⟨g, 8, none⟩ (.int .u8 64)).setCell ⟨g, 9, none⟩ (.int .u8 (p : Int))).ownsRow w.heap.size 5 1 (.slice (some ⟨g, 0, none⟩) 20 20) 20 (nus .u8 (((Z.set 6 64).set 8 64).set 9 p)) from h9.1)
  have K9 := Lib.hid (show Below g w1 (((w3.setCell ⟨g, 6, none⟩ (.int .u8 64)).setCell ⟨g, 8, none⟩ (.int .u8 64)).setCell ⟨g, 9, none⟩ (.int .u8 (p : Int))) from k9)
  clear h6 h8 h9 k6 k8 k9
  generalize Z.getD 6 0 = y6 at c6
  generalize Z.getD 8 0 = y8 at c8
  generalize Z.getD 9 0 = y9 at c9
  have hpl : (((Z.set 6 64).set 8 64).set 9 p).length = 20 := by simp [HZL.out]
  obtain ⟨P, hP⟩ : ∃ P, P = ((Z.set 6 64).set 8 64).set 9 p := ⟨_, rfl⟩
  rw [← hP] at H9 HM hpl
  have HPL := Lib.hid hpl
  clear hP hpl
  go_wp2
  go_loopw [11] (fun i wr => ∃ k : Nat, k ≤ 4 ∧ i = .int .i64 (k : Int) ∧ Hid (wr.ownsRow w.heap.size 5 1 (.slice (some ⟨g, 0, none⟩) 20 20) 20 (nus .u8 (rowj P sb db k))) ∧ Hid (Below g w1 wr)) (fun i _ => 4 - (RowKit.intOf i).toNat)
  case atStart => exact ⟨0, by omega, rfl, by show World.ownsRow _ _ _ _ _ _ _; rw [rowj_zero P sb db HPL.out]; exact H9.out, K9⟩
  case round =>
    obtain ⟨k, hk4, rfl, hO, hK⟩ := hrel
    clear c6 c8 c9 f6 f8 f9 H9 K9 O3 K3
    by_cases hlt : k < 4
    · have s1 := ((N1.out.below hK.out hg1).cell (1 + k)).trans (G1.out k hlt)
      have s2 := ((N2.out.below hK.out hg2).cell (1 + k)).trans (G2.out k hlt)
      have t1 := hO.out.cellAt (12 + k) (by omega)
      have t2 := hO.out.cellAt (16 + k) (by omega)
      rw [nus_get _ _ _ (by rw [rowj_length]; omega)] at t1 t2
      have f1 := hO.out.frozenAt (12 + k)
      have f2 := hO.out.frozenAt (16 + k)
      have q1 := hO.out.stored (12 + k) (.int .u8 ((sb.getD k 0 : Nat) : Int))
      rw [nus_set] at q1
      have q2 := q1.1.stored (16 + k) (.int .u8 ((db.getD k 0 : Nat) : Int))
      rw [nus_set, rowj_step P sb db k hlt] at q2
      have k1 := hK.out.grown q1.2 (Nat.le_trans hgw hK.out.size) (fun k e => by cases e; exact Nat.le_refl _)
      have k2 := k1.grown q2.2 (Nat.le_trans hgw k1.size) (fun k e => by cases e; exact Nat.le_refl _)
      have Q := Lib.hid q2.1
      have KK := Lib.hid k2
      generalize (rowj P sb db k).getD (12 + k) 0 = y1 at t1
      generalize (rowj P sb db k).getD (16 + k) 0 = y2 at t2
      clear q1 q2 k1 k2
      generalize sb.getD k 0 = x1 at *
      generalize db.getD k 0 = x2 at *
      have a1 : IntKind.i64.wrap (12 + (k : Int)) = 12 + (k : Int) := by rw [IntKind.wrap_i64]; omega
      have a2 : IntKind.i64.wrap (16 + (k : Int)) = 16 + (k : Int) := by rw [IntKind.wrap_i64]; omega
      have b1 : (0 : Int) ≤ 12 + (k : Int) ∧ 12 + (k : Int) < 20 := by omega
      have b2 : (0 : Int) ≤ 16 + (k : Int) ∧ 16 + (k : Int) < 20 := by omega
      have d1 : ((12 : Int) + (k : Int)).toNat = 12 + k := by omega
      have d2 : ((16 : Int) + (k : Int)).toNat = 16 + k := by omega
      go_wp2
      go_roundw
      case rel => exact ⟨k + 1, by omega, by go_num, Q, KK⟩
      case measure => simp [RowKit.intOf]; omega
    · obtain rfl : k = 4 := by omega
      have O4 := Lib.hid (show wr.ownsRow w.heap.size 5 1 (.slice (some ⟨g, 0, none⟩) 20 20) 20 (nus .u8 M) from by rw [← HM.out]; exact hO.out)
      have K4 := hK
      clear hO hK hlt
      go_wp2_with fail
      refine (rcheck_any _ M _ (Rd.own O4.out) (by rw [HML.out]; omega) HMB.out).mono ?_
      rintro e w9 ⟨rfl, rfl⟩
      go_wp2_with fail
      refine (rput16_any g 20 20 w.heap.size 10 (ck M) M _ O4.out h20m (by omega) (by omega)).mono ?_
      rintro e w10 ⟨rfl, o10, g10⟩
      rw [← HR.out] at o10
      have O10 := Lib.hid o10
      have K10 := Lib.hid (K4.out.grown g10 (Nat.le_trans hgw K4.out.size) (fun k e => by cases e; exact Nat.le_refl _))
      clear o10 g10 O4 K4
      go_wp2
      go_ret2
      exact ⟨_, rfl, O10.out, K1.out.trans (K10.out.mono hgl)⟩
end Go.Proofs.Ythjaolngfjfldaa

/- Bytes as a string. Nothing of the program. -/
namespace Go.Proofs.Ythjaolngfjfldaa
open Go.RowKit

/-- The string of bytes. -/
def str (zs : List Nat) : ByteArray := ⟨(zs.map UInt8.ofNat).toArray⟩

theorem str_inj (a b : List Nat) (ha : ∀ c ∈ a, c < 256) (hb : ∀ c ∈ b, c < 256) (h : str a = str b) : a = b := by
  have h1 : a.map UInt8.ofNat = b.map UInt8.ofNat := by
    have := congrArg (fun s : ByteArray => s.data.toList) h
    simpa [str] using this
  have h2 : ∀ l : List Nat, (∀ c ∈ l, c < 256) → (l.map UInt8.ofNat).map UInt8.toNat = l := by
    intro l hl
    rw [List.map_map]
    conv => rhs; rw [← List.map_id l]
    apply List.map_congr_left
    intro c hc
    have := hl c hc
    simp only [Function.comp_apply, id_eq, UInt8.toNat_ofNat']
    omega
  rw [← h2 a ha, ← h2 b hb, h1]
theorem str_append (a b : List Nat) : str (a ++ b) = str a ++ str b := by
  apply ByteArray.ext
  simp [str]

theorem strOfNums_nat (zs : List Nat) : strOfNums (zs.map fun n : Nat => (n : Int)) = str zs := by
  unfold strOfNums str
  rw [List.map_map]
  rfl

theorem conv_rd {P : Program} (w : World) (src dst e : TypeId) (hs : P.underlying src = some (.slice e)) (he : P.underlying e = some (.int .u8)) (hd : P.underlying dst = some .string) (v : Value) (zs : List Nat) (h : Rd w v (nus .u8 zs)) :
    (convert src dst v).run P w = .ok (.string (str zs)) w := by
  obtain ⟨a, cap, rfl, _, _, hx⟩ := h
  rw [nus_length] at hx ⊢
  rw [← strOfNums_nat]
  rcases hx with hx | ⟨b, off, rfl, _, hc⟩
  · obtain rfl := (nus_nil _ _).1 hx
    cases a with
    | none => exact run_convert_bytes_nil w src e hs he _ _ dst hd
    | some ad =>
      rw [run_convert_bytes_string w src dst e _ _ _ hs he hd, List.length_nil, run_bytesToString w ad 0 cap [] (by simp [loadCells, go_sem])]
      rfl
  · exact run_convert_bytes_arg w src e hs he b off zs.length cap (zs.map fun n : Nat => (n : Int)) (by simp) (fun i hi => by
      rw [hc i hi, nus_get _ _ _ hi]
      simp [List.getD_eq_getElem?_getD, List.getElem?_eq_getElem hi]) dst hd
end Go.Proofs.Ythjaolngfjfldaa

