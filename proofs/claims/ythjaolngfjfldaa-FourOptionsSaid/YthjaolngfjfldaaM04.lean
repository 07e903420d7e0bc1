/- Texts that the walks of this seat lean on, put together: each has its own remark below. -/
import Derived.Handy
import Derived.BigQuiet
import Derived.Deep.QuietTactic
import Derived.Deep.RegionHeld
import Derived.Below
import Derived.Test.YthjaolngfjfldaaM01
import Derived.Test.YthjaolngfjfldaaM02
import Derived.Test.YthjaolngfjfldaaM03

/- The contract of octet.Put at 16 binary digits, into a row of the call that called it. -/
namespace Go.Proofs.Ythjaolngfjfldaa
open Go.RowKit

set_option maxHeartbeats 400000 in
theorem put16_yes (g n cap base : Nat) (k v : Nat) (zs : List Nat) (w : World) (hown : w.ownsRow base 5 1 (.slice (some ⟨g, 0, none⟩) n cap) n (nus .u8 zs)) (hn : n ≤ maxLen) (hk : k + 2 ≤ n) (hv : v < 65536) :
    Calls Try.prog 26 #[.slice (some ⟨g, 0, none⟩) n cap, .int .i64 k, .int .u16 v] w fun e w' => e = .returned (.bool true) ∧ w'.ownsRow base 5 1 (.slice (some ⟨g, 0, none⟩) n cap) n (nus .u8 (putRow zs k 2 v 2)) ∧ w.grownBy w' (some g) := by
  have hzl : zs.length = n := by have := hown.1; simpa [nus_length] using this
  unfold maxLen at hn
  have hfit : decide ((k : Int) ≤ (n : Int) - 2) = true := by simp; omega
  have HO := Lib.hid hown
  have HZ := Lib.hid hzl
  clear hown hzl
  go_enter Try.func26, Try.ntmps26
  go_wp2_with (first
    | (go_at_call 37; refine (fits16_pos _ _ _ _ _ (by unfold maxLen; omega) (by omega)).mono ?_; rintro e w' ⟨rfl, rfl⟩; rw [hfit])
    | (go_at_call 38; refine (size16_any _).mono ?_; rintro e w' ⟨rfl, rfl⟩))
  go_loopw [7, 8] (fun r i wr => ∃ j : Nat, j ≤ 2 ∧ r = .int .u64 ((v / 256 ^ j : Nat) : Int) ∧ i = .int .i64 ((k : Int) + 2 - 1 - j) ∧ wr.ownsRow base 5 1 (.slice (some ⟨g, 0, none⟩) n cap) n (nus .u8 (putRow zs k 2 v j)) ∧ w.grownBy wr (some g)) (fun _ i _ => (intOf i + 1 - k).toNat)
  case atStart => exact ⟨0, by omega, by simp, by simp, by rw [putRow_zero]; exact HO.out, World.grownBy.refl _ _⟩
  case round =>
    obtain ⟨j, hj, rfl, rfl, hown, hgr⟩ := hrel
    by_cases h1 : j < 2
    · obtain ⟨r, hr⟩ : ∃ r, r = v / 256 ^ j := ⟨_, rfl⟩
      obtain ⟨p, hp⟩ : ∃ p : Nat, (k : Int) + 2 - 1 - j = p := ⟨k + 2 - 1 - j, by omega⟩
      have hpk : k ≤ p ∧ p < k + 2 := by omega
      have hrv : r < 18446744073709551616 := by have := Nat.div_le_self v (256 ^ j); omega
      have hcell := hown.cellAt p (by omega)
      rw [nus_get _ _ _ (by rw [putRow_length _ _ _ _ _ (by rw [HZ.out]; exact hk) hj, HZ.out]; omega)] at hcell
      have hfz := hown.frozenAt p
      have hst := hown.stored p (.int .u8 ((r % 256 : Nat) : Int))
      have hstep := putRow_step zs k 2 v j (by rw [HZ.out]; exact hk) h1
      rw [← hr, show k + 2 - 1 - j = p from by omega] at hstep
      rw [nus_set, hstep] at hst
      have hr2 : r / 256 = v / 256 ^ (j + 1) := by rw [hr, Nat.div_div_eq_div_mul, Nat.pow_succ]
      rw [← hr, hp]
      obtain ⟨x, hx⟩ : ∃ x, x = (putRow zs k 2 v j).getD p 0 := ⟨_, rfl⟩
      rw [← hx] at hcell
      have HS := Lib.hid hst
      have HP := Lib.hid hp
      have HR := Lib.hid hr2
      clear hown hst hstep hp hr hr2 hx
      go_wp2
      go_roundw
      case rel => exact ⟨j + 1, by omega, by rw [← HR.out]; go_num, by have := HP.out; go_num, HS.out.1, grownBy_trans hgr HS.out.2⟩
      case measure => have := HP.out; simp [intOf]; omega
    · obtain rfl : j = 2 := by omega
      go_wp2
      go_ret
      exact ⟨rfl, hown, hgr⟩
set_option maxHeartbeats 400000 in
theorem put16_no (a : Option Addr) (len cap : Nat) (at0 v : Int) (w : World) (hl : len ≤ maxLen) (h : at0 < 0 ∨ (len : Int) < at0 + 2) :
    Calls Try.prog 26 #[.slice a len cap, .int .i64 at0, .int .u16 v] w fun e w' => e = .returned (.bool false) ∧ w = w' := by
  by_cases h0 : at0 < 0
  · go_enter Try.func26, Try.ntmps26
    go_wp2_with (go_at_call 37; refine (fits16_neg _ _ _ _ _ (by omega)).mono ?_; rintro e w' ⟨rfl, rfl⟩)
    go_ret
    exact ⟨rfl, rfl⟩
  · have hfit : decide (at0 ≤ (len : Int) - 2) = false := by simp; omega
    go_enter Try.func26, Try.ntmps26
    go_wp2_with (go_at_call 37; refine (fits16_pos _ _ _ _ _ hl (by omega)).mono ?_; rintro e w' ⟨rfl, rfl⟩; rw [hfit])
    go_ret
    exact ⟨rfl, rfl⟩
end Go.Proofs.Ythjaolngfjfldaa

/- A region's walk with a stronger class of worlds behind a call. Nothing of the program. -/
namespace Go.Proofs.Ythjaolngfjfldaa
open Go.RowKit

/-- The class of worlds may be made smaller on the way. -/
theorem wpAnyH_mono {P : Program} {ops : Array Oper} {Q : Exit → Act → World → Prop} {md : Region.Mode} {S S' : World → Prop} (hS : ∀ w, S' w → S w) :
    ∀ (fuel : Nat) (listed : Array Bool) (a : Act) (w : World), wpAnyH P md ops Q S' fuel listed a w → wpAnyH P md ops Q S fuel listed a w
  | 0, _, _, _, h => h
  | _ + 1, _, _, _, h => ⟨h.1, fun i hi => wpOp_mono (fun _ _ h' => ⟨hS _ h'.1, wpAnyH_mono hS _ _ _ _ h'.2⟩) (h.2 i hi)⟩
end Go.Proofs.Ythjaolngfjfldaa

/- ipfour.Dest. -/
namespace Go.Proofs.Ythjaolngfjfldaa
open Go.RowKit


set_option maxHeartbeats 1000000 in
theorem dest_no (v : Value) (zs : List Nat) (six : Bool) (bs : List Nat) (w : World) (hr : Rd w v (nus .u8 zs)) (hb : ∀ c ∈ zs, c < 256) (h : ff zs ≠ 0 ∨ six = true) :
    Calls Try.prog 14 #[v, adr six bs] w fun e w' => e = .returned (.slice none 0 0) ∧ Below w.heap.size w w' := by
  obtain ⟨a, cap, rfl, -, -⟩ := rd_shape hr
  unfold adr
  obtain ⟨c, hc⟩ : ∃ c, c = cellsA six bs := ⟨_, rfl⟩
  have hc0 : c[0]? = some (.bool six) := by rw [hc]; exact cellsA_head _ _
  rw [← hc]
  have B0 := (Below.refl w.heap.size w).alloc (Nat.le_refl _) (.cells c 25)
  have HF := Lib.hid (fault_any _ zs _ (hr.below B0) hb)
  have HN := Lib.hid (Blk.new w 25 c)
  have HB := Lib.hid B0
  have hlt := ff_lt zs
  generalize ff zs = r at *
  generalize zs.length = n at *
  clear hr hb hc B0
  go_enter Try.func14, Try.ntmps14
  go_wp2_with fail
  refine HF.out.mono ?_; rintro e W1 ⟨rfl, hb⟩
  have HN1 := Lib.hid (HN.out.below hb HN.out.lt)
  have HB1 := Lib.hid (HB.out.trans (hb.mono HB.out.size))
  clear hb HN HB HF
  have hc1 := HN1.out.cell 0
  rw [hc0] at hc1
  by_cases hr0 : r = 0
  · obtain rfl : six = true := by rcases h with h | h; exact absurd hr0 h; exact h
    subst hr0
    clear h hc0
    go_wp2
    go_ret
    exact ⟨rfl, HB1.out⟩
  · have g0 : ((r : Int) != 0) = true := by simp; omega
    clear h hr0 hc0 hc1
    go_wp2
    go_ret
    exact ⟨rfl, HB1.out⟩
/-- The packet with another destination. -/
def dst4 (zs t : List Nat) : List Nat := ov (ov zs (bg 2 (chA (u2 zs 10) ((zs.drop 16).take 4) t)) 10) t 16

set_option maxHeartbeats 2000000 in
theorem dest_yes (v : Value) (zs : List Nat) (bs : List Nat) (w : World) (hr : Rd w v (nus .u8 zs)) (hb : ∀ c ∈ zs, c < 256) (h : ff zs = 0) (hz : zs.length ≤ 140737488351232) (hl : bs.length = 16) (hbb : ∀ c ∈ bs, c < 256) :
    Calls Try.prog 14 #[v, adr false bs] w fun e w' => ∃ x, e = .returned x ∧ w'.ownsRow w.heap.size 5 1 x zs.length (nus .u8 (dst4 zs (bs.take 4))) ∧ Below w.heap.size w w' := by
  obtain ⟨h20, -, -, -, -, -, -, -⟩ := ff_yes zs h
  obtain ⟨a, cap, rfl, hlc, hlm⟩ := rd_shape hr
  obtain ⟨b, off, rfl, hce⟩ := hr.cells (by omega)
  have hHl : (bs.take 4).length = 4 := by simp; omega
  have hHb : ∀ c ∈ bs.take 4, c < 256 := fun c hc => hbb c (List.mem_of_mem_take hc)
  have CB := Lib.hid (fun w' => bytes_own false bs hl w')
  unfold bytesA at CB
  rw [if_neg (by decide), hHl] at CB
  unfold adr at CB ⊢
  obtain ⟨c, hc⟩ : ∃ c, c = cellsA false bs := ⟨_, rfl⟩
  have hc0 : c[0]? = some (.bool false) := by rw [hc]; exact cellsA_head _ _
  have hcz : c.size = 17 := by rw [hc, cellsA_size, hl]
  rw [← hc] at CB ⊢
  have I := Lib.hid (i24.trans (congrArg some hcz.symm))
  have B0 := (Below.refl w.heap.size w).alloc (Nat.le_refl _) (.cells c 25)
  have HF := Lib.hid (fault_any _ zs _ (hr.below B0) hb)
  rw [h] at HF
  have HN := Lib.hid (Blk.new w 25 c)
  have HB := Lib.hid B0
  have HR := Lib.hid hr
  have HS := Lib.hid (hr.sub 16 4 (by omega))
  have CC := Lib.hid (fun w' h => clone_any ⟨b, off, none⟩ cap zs w' h (by omega) (by omega))
  have CW := Lib.hid (fun w' (h : Rd w' (.slice (some ⟨b, off, none⟩) zs.length cap) (nus .u8 zs)) => (word_any _ 10 zs w' h hb (by omega)).mono fun e w1 hh => show e = .returned (.int .u16 (u2 zs 10 : Nat)) ∧ Below w'.heap.size w' w1 from ⟨hh.1, hh.2 ▸ Below.refl _ _⟩)
  have CG := Lib.hid (fun w' z (h1 : Rd w' (.slice (some ⟨b, off + 16, none⟩) 4 (cap - 16)) (nus .u8 ((zs.drop 16).take 4))) (h2 : Rd w' z (nus .u8 (bs.take 4))) => change_any (u2 zs 10) _ z _ _ w' h1 h2 (by simp; omega) (fun c hc => hb c (List.mem_of_mem_drop (List.mem_of_mem_take hc))) hHb (u2_lt zs 10 hb))
  have hV : chA (u2 zs 10) ((zs.drop 16).take 4) (bs.take 4) < 65536 := chA_lt _ _ _ (u2_lt zs 10 hb)
  have HD : Hid (dst4 zs (bs.take 4) = ov (putRow zs 10 2 (chA (u2 zs 10) ((zs.drop 16).take 4) (bs.take 4)) 2) (bs.take 4) 16) := by
    show _ = _
    rw [put_ov]; rfl
  have HHl := Lib.hid hHl
  have HZL : Hid ((putRow zs 10 2 (chA (u2 zs 10) ((zs.drop 16).take 4) (bs.take 4)) 2).length = zs.length) := putRow_length zs 10 2 _ 2 (by omega) (Nat.le_refl _)
  generalize dst4 zs (bs.take 4) = RES at *
  generalize chA (u2 zs 10) ((zs.drop 16).take 4) (bs.take 4) = V at *
  generalize (zs.drop 16).take 4 = OD at *
  generalize bs.take 4 = T at *
  generalize u2 zs 10 = O at *
  have hnm : zs.length ≤ maxLen := by omega
  generalize zs.length = n at *
  unfold maxLen at hlm
  clear hr hb hc B0 hcz hce h hl hbb hHl hHb
  go_enter Try.func14, Try.ntmps14
  go_wp2_with fail
  refine HF.out.mono ?_; rintro e W1 ⟨rfl, hb⟩
  have HN1 := Lib.hid (HN.out.below hb HN.out.lt)
  have HB1 := Lib.hid (HB.out.trans (hb.mono HB.out.size))
  have HR1 := Lib.hid (HR.out.below HB1.out)
  have hc1 := HN1.out.cell 0
  rw [hc0] at hc1
  clear hb HN HB HF hc0
  go_wp2_with fail
  refine wp_region_held (S := (fun w' : World => Below W1.heap.size W1 w')) (by kernel_rfl) ?_
  change wpAnyH _ _ _ _ _ _ _ _ W1.drew
  have hE0 : Below W1.heap.size W1 W1.drew := (Below.refl _ _).drew
  generalize W1.drew = Y0 at hE0  ⊢
  have E0 := Lib.hid hE0
  clear hE0 
  refine wpAnyH_take (i := 0) (oi := { dst := some 14, op := Op.move (Operand.tmp 0), type := 22, pos := "ipfour.go:95", after := #[], guard := none }) (v := ?_) rfl (by kernel_rfl) (by kernel_rfl) (by kernel_rfl) (fun _ _ _ h => h) (Or.inl ⟨by rfl, ?_⟩) E0.out ?_
  rotate_left
  · (intro w1 hS; go_simp; try with_reducible rfl)
  simp only [Act.put, List.setIfInBounds_toArray, List.set_cons_zero, List.set_cons_succ]
  refine wpAnyH_take (i := 2) (oi := { dst := some 16, op := Op.load 25 (Operand.tmp 3), type := 25, pos := "ipfour.go:95", after := #[], guard := none }) (v := .agg c) rfl (by kernel_rfl) (by kernel_rfl) (by kernel_rfl) (fun _ _ _ h => h) (Or.inl ⟨by rfl, ?_⟩) E0.out ?_
  · (intro w1 hS; have hW := hS; exact exec_load 25 (.tmp 3) rfl _ rfl _ (run_blk_load (P := Try.prog) 25 w.heap.size _ (HN1.out.below hW HN1.out.lt) Try.underlying25 rfl I.out))
  simp only [Act.put, List.setIfInBounds_toArray, List.set_cons_zero, List.set_cons_succ]
  refine wpAnyH_ready (rs := [1]) (by kernel_rfl) (by simp) ?_
  refine AllReadyH.cons (o := { dst := some 15, op := Op.call { callee := Callee.value (Operand.func 30), args := #[Operand.tmp 14], argTypes := #[22] }, type := 22, pos := "ipfour.go:95", after := #[{ on := 0, ground := Ground.data }], guard := none }) rfl (fun K hK => ?_) AllReadyH.nil
  go_simp
  refine (CC.out Y0 (HR1.out.below E0.out)).mono ?_
  rintro e Y1 ⟨x, rfl, hx, hy⟩
  have E1 := Lib.hid (E0.out.trans (hy.mono E0.out.size))
  have C1 := Lib.hid E1.out
  have O1 := Lib.hid (own_low (Nat.le_trans HB1.out.size E0.out.size) hx)
  obtain ⟨g, cap2, rfl, hc2, hcm2, hgl, hgu⟩ := own_at O1.out (by omega)
  clear hx
  clear hy E0
  refine hK.out _ _ C1.out (fun _ => ?_)
  clear hK K
  refine wpAnyH_mono (S' := (fun w' : World => Below Y1.heap.size Y1 w')) (fun w1 h => C1.out.trans (h.mono C1.out.size)) _ _ _ _ ?_
  clear C1
  try simp only [Act.put, List.setIfInBounds_toArray, List.set_cons_zero, List.set_cons_succ]
  refine wpAnyH_ready (rs := [3]) (by kernel_rfl) (by simp) ?_
  refine AllReadyH.cons (o := { dst := some 17, op := Op.call { callee := Callee.value (Operand.func 27), args := #[Operand.tmp 16], argTypes := #[25] }, type := 22, pos := "ipfour.go:95", after := #[{ on := 2, ground := Ground.data }, { on := 1, ground := Ground.chain }], guard := none }) rfl (fun K hK => ?_) AllReadyH.nil
  go_simp
  refine (CB.out Y1).mono ?_
  rintro e Y2 ⟨z, rfl, hz, hy⟩
  have E2 := Lib.hid (E1.out.trans (hy.mono E1.out.size))
  have C2 := Lib.hid hy
  have O2 := Lib.hid (row_under O1.out hy)
  have Z2 := Lib.hid hz
  clear hz O1
  clear hy E1
  refine hK.out _ _ C2.out (fun _ => ?_)
  clear hK K
  refine wpAnyH_mono (S' := (fun w' : World => Below Y2.heap.size Y2 w')) (fun w1 h => C2.out.trans (h.mono C2.out.size)) _ _ _ _ ?_
  clear C2
  try simp only [Act.put, List.setIfInBounds_toArray, List.set_cons_zero, List.set_cons_succ]
  refine wpAnyH_take (i := 4) (oi := { dst := some 5, op := Op.assign (Operand.tmp 15), type := 22, pos := "ipfour.go:95", after := #[{ on := 1, ground := Ground.data }, { on := 3, ground := Ground.chain }, { on := 0, ground := Ground.phase }, { on := 1, ground := Ground.phase }, { on := 2, ground := Ground.textOnly Departure.lateStores }, { on := 3, ground := Ground.textOnly Departure.lateStoresUnsure }], guard := none }) (v := ?_) rfl (by kernel_rfl) (by kernel_rfl) (by kernel_rfl) (fun _ _ _ h => h) (Or.inl ⟨by rfl, ?_⟩) (Below.refl _ _) ?_
  rotate_left
  · (intro w1 hS; go_simp; try with_reducible rfl)
  simp only [Act.put, List.setIfInBounds_toArray, List.set_cons_zero, List.set_cons_succ]
  refine wpAnyH_take (i := 5) (oi := { dst := some 6, op := Op.assign (Operand.tmp 17), type := 22, pos := "ipfour.go:95", after := #[{ on := 3, ground := Ground.data }, { on := 4, ground := Ground.chain }, { on := 0, ground := Ground.phase }, { on := 1, ground := Ground.phase }, { on := 2, ground := Ground.phase }, { on := 3, ground := Ground.phase }, { on := 4, ground := Ground.phase }], guard := none }) (v := ?_) rfl (by kernel_rfl) (by kernel_rfl) (by kernel_rfl) (fun _ _ _ h => h) (Or.inl ⟨by rfl, ?_⟩) (Below.refl _ _) ?_
  rotate_left
  · (intro w1 hS; go_simp; try with_reducible rfl)
  simp only [Act.put, List.setIfInBounds_toArray, List.set_cons_zero, List.set_cons_succ]
  refine wpAnyH_done (by kernel_rfl) ?_ _
  have K2 := Lib.hid (HB1.out.trans (E2.out.mono HB1.out.size))
  clear CC CB HN1 HR1 hc1 HB1 E2 I
  go_wp2_with fail
  refine wp_region_held (S := (fun w' : World => Below w.heap.size w w')) (by kernel_rfl) ?_
  change wpAnyH _ _ _ _ _ _ _ _ Y2.drew
  have hE0 : Below w.heap.size w Y2.drew := K2.out.drew
  have qO3 := row_under O2.out (show Below Y2.heap.size Y2 Y2.drew from (Below.refl _ _).drew)
  have qZ3 := row_under Z2.out (show Below Y2.heap.size Y2 Y2.drew from (Below.refl _ _).drew)
  generalize Y2.drew = X0 at hE0 qO3 qZ3 ⊢
  have E0 := Lib.hid hE0
  have O3 := Lib.hid qO3
  have Z3 := Lib.hid qZ3
  clear hE0 qO3 qZ3
  refine wpAnyH_take (i := 0) (oi := { dst := some 18, op := Op.move (Operand.tmp 5), type := 22, pos := "ipfour.go:96", after := #[], guard := none }) (v := ?_) rfl (by kernel_rfl) (by kernel_rfl) (by kernel_rfl) (fun _ _ _ h => h) (Or.inl ⟨by rfl, ?_⟩) E0.out ?_
  rotate_left
  · (intro w1 hS; go_simp; try with_reducible rfl)
  simp only [Act.put, List.setIfInBounds_toArray, List.set_cons_zero, List.set_cons_succ]
  refine wpAnyH_take (i := 1) (oi := { dst := some 19, op := Op.move (Operand.tmp 0), type := 22, pos := "ipfour.go:96", after := #[], guard := none }) (v := ?_) rfl (by kernel_rfl) (by kernel_rfl) (by kernel_rfl) (fun _ _ _ h => h) (Or.inl ⟨by rfl, ?_⟩) E0.out ?_
  rotate_left
  · (intro w1 hS; go_simp; try with_reducible rfl)
  simp only [Act.put, List.setIfInBounds_toArray, List.set_cons_zero, List.set_cons_succ]
  refine wpAnyH_take (i := 3) (oi := { dst := some 21, op := Op.move (Operand.tmp 0), type := 22, pos := "ipfour.go:96", after := #[], guard := none }) (v := ?_) rfl (by kernel_rfl) (by kernel_rfl) (by kernel_rfl) (fun _ _ _ h => h) (Or.inl ⟨by rfl, ?_⟩) E0.out ?_
  rotate_left
  · (intro w1 hS; go_simp; try with_reducible rfl)
  simp only [Act.put, List.setIfInBounds_toArray, List.set_cons_zero, List.set_cons_succ]
  refine wpAnyH_take (i := 4) (oi := { dst := some 22, op := Op.slice 22 (Operand.tmp 21) (some (Operand.const (Value.int IntKind.i64 16))) (some (Operand.const (Value.int IntKind.i64 20))) none, type := 22, pos := "ipfour.go:96", after := #[{ on := 3, ground := Ground.data }], guard := none }) (v := ?_) rfl (by kernel_rfl) (by kernel_rfl) (by kernel_rfl) (fun _ _ _ h => h) (Or.inl ⟨by rfl, ?_⟩) E0.out ?_
  rotate_left
  · (intro w1 hS; have hW := hS; have q : (20 : Int) ≤ (cap : Int) := (by omega); have q2 : (cap = 16) = False := (eq_false (by omega)); clear hW hS; go_simp; try with_reducible rfl)
  simp only [Act.put, List.setIfInBounds_toArray, List.set_cons_zero, List.set_cons_succ]
  refine wpAnyH_take (i := 5) (oi := { dst := some 23, op := Op.move (Operand.tmp 6), type := 22, pos := "ipfour.go:96", after := #[], guard := none }) (v := ?_) rfl (by kernel_rfl) (by kernel_rfl) (by kernel_rfl) (fun _ _ _ h => h) (Or.inl ⟨by rfl, ?_⟩) E0.out ?_
  rotate_left
  · (intro w1 hS; go_simp; try with_reducible rfl)
  simp only [Act.put, List.setIfInBounds_toArray, List.set_cons_zero, List.set_cons_succ]
  refine wpAnyH_ready (rs := [2]) (by kernel_rfl) (by simp) ?_
  refine AllReadyH.cons (o := { dst := some 20, op := Op.call { callee := Callee.value (Operand.func 23), args := #[Operand.tmp 19, Operand.const (Value.int IntKind.i64 10)], argTypes := #[22, 3] }, type := 40, pos := "ipfour.go:96", after := #[{ on := 1, ground := Ground.data }], guard := none }) rfl (fun K hK => ?_) AllReadyH.nil
  go_simp
  refine (CW.out X0 (HR.out.below E0.out)).mono ?_
  rintro e X1 ⟨rfl, hy⟩
  have E1 := Lib.hid (E0.out.trans (hy.mono E0.out.size))
  have C1 := Lib.hid E1.out
  have O4 := Lib.hid (row_under O3.out hy)
  have Z4 := Lib.hid (row_under Z3.out hy)
  clear O3 Z3
  clear hy E0
  refine hK.out _ _ C1.out (fun _ => ?_)
  clear hK K
  try simp only [Act.put, List.setIfInBounds_toArray, List.set_cons_zero, List.set_cons_succ]
  clear C1
  refine wpAnyH_ready (rs := [6]) (by kernel_rfl) (by simp) ?_
  refine AllReadyH.cons (o := { dst := some 24, op := Op.call { callee := Callee.value (Operand.func 31), args := #[Operand.tmp 20, Operand.tmp 22, Operand.tmp 23], argTypes := #[40, 22, 22] }, type := 40, pos := "ipfour.go:96", after := #[{ on := 2, ground := Ground.data }, { on := 4, ground := Ground.data }, { on := 5, ground := Ground.data }, { on := 2, ground := Ground.chain }], guard := none }) rfl (fun K hK => ?_) AllReadyH.nil
  go_simp
  refine (CG.out X1 z (HS.out.below E1.out) (Rd.own Z4.out)).mono ?_
  rintro e X2 ⟨rfl, hy⟩
  have E2 := Lib.hid (E1.out.trans (hy.mono E1.out.size))
  have C2 := Lib.hid E2.out
  have O5 := Lib.hid (row_under O4.out hy)
  have Z5 := Lib.hid (row_under Z4.out hy)
  clear O4 Z4
  clear hy E1
  refine hK.out _ _ C2.out (fun _ => ?_)
  clear hK K
  try simp only [Act.put, List.setIfInBounds_toArray, List.set_cons_zero, List.set_cons_succ]
  clear C2
  refine wpAnyH_ready (rs := [7]) (by kernel_rfl) (by simp) ?_
  refine AllReadyH.cons (o := { dst := some 25, op := Op.call { callee := Callee.value (Operand.func 26), args := #[Operand.tmp 18, Operand.const (Value.int IntKind.i64 10), Operand.tmp 24], argTypes := #[22, 3, 40] }, type := 4, pos := "ipfour.go:96", after := #[{ on := 0, ground := Ground.data }, { on := 6, ground := Ground.data }, { on := 6, ground := Ground.chain }], guard := none }) rfl (fun K hK => ?_) AllReadyH.nil
  go_simp
  refine (put16_yes g n cap2 w.heap.size 10 V zs X2 O5.out hnm (by omega) hV).mono ?_
  rintro e X3 ⟨rfl, o6, g6⟩
  have O6 := Lib.hid o6
  have b6 := E2.out.grown g6 E2.out.size (fun k e => by cases e; exact hgl)
  have K6 := Lib.hid b6
  have Z6 := Lib.hid (own_apart Z5.out g6 hgu)
  refine hK.out _ _ K6.out (fun _ => ?_)
  clear hK K o6 g6 b6 E2 O5 Z5
  try simp only [Act.put, List.setIfInBounds_toArray, List.set_cons_zero, List.set_cons_succ]
  refine wpAnyH_done (by kernel_rfl) ?_ _
  obtain ⟨gz, cz, rfl, -, -, -, -⟩ := own_at Z6.out (by omega)
  have q2 : (cap2 = 16) = False := eq_false (by omega)
  go_wp2_with ((with_reducible refine copy_into ?cg (.tmp 27) (.tmp 28) 22 22 ?co 5 Try.underlying22 Try.size5 g 16 n cap2 w.heap.size (n - 16) (cap2 - 16) 5 .u8 (putRow zs 10 2 V 2) T (some ⟨gz, 0, none⟩) 4 cz ?cd ?cs O6.out (Rd.own Z6.out) ?cf ?ce ?_); (case cg => rfl); (case co => rfl); (case cd => rfl); (case cs => rfl); (case cf => omega); (case ce => omega))
  intro w7 o7 g7
  have K7 := Lib.hid (K6.out.grown g7 K6.out.size (fun k e => by cases e; exact hgl))
  clear g7 K6 O6 Z6
  go_wp2
  go_ret
  exact ⟨_, rfl, by rw [HD.out]; exact o7.out, K7.out⟩
end Go.Proofs.Ythjaolngfjfldaa

/- copy into a part of a row of the call's own, where an operation alone is looked at. Nothing of the program. -/
namespace Go.Proofs.Ythjaolngfjfldaa
open Go.RowKit

theorem wp_copy_into {P : Program} {w : World} {K : Act → World → Prop} {Q : Exit → Act → World → Prop} {o : Oper} {a : Act} (d s : Operand) (dT sT : TypeId)
    (ho : o.op = .call { callee := .builtin .copy, args := #[d, s], argTypes := #[dT, sT] }) (elem : TypeId) (hu : P.underlying dT = some (.slice elem)) (hsz : (P.info? elem).map (·.size) = some 1)
    (g off n cap base dLen dCap : Nat) (e : TypeId) (k : IntKind) (zs ts : List Nat) (sp : Option Addr) (sLen sCap : Nat) (hd : a.eval d = .slice (some ⟨g, off, none⟩) dLen dCap) (hs : a.eval s = .slice sp sLen sCap)
    (hown : w.ownsRow base e 1 (.slice (some ⟨g, 0, none⟩) n cap) n (nus k zs)) (hr : Rd w (.slice sp sLen sCap) (nus k ts)) (hfit : off + sLen ≤ n) (hdl : sLen ≤ dLen) (h0 : 0 < sLen)
    (h : ∀ w', Hid (w'.ownsRow base e 1 (.slice (some ⟨g, 0, none⟩) n cap) n (nus k (ov zs ts off))) → w.grownBy w' (some g) → K (a.put o.dst (goInt sLen)) w') :
    o.wp P a w K Q := by
  have hr0 := hr
  obtain ⟨a', c', ee, h1, h2, h3⟩ := hr0
  simp only [Value.slice.injEq, nus_length] at ee
  obtain ⟨rfl, rfl, rfl⟩ := ee
  obtain ⟨hxl, ⟨h0', -⟩ | ⟨g', cap', cur, hv, hb, hh, hnc, hcm, hcs, ht⟩⟩ := hown
  · cases h0'
  simp only [Value.slice.injEq, Option.some.injEq, Addr.mk.injEq, and_true, true_and] at hv
  obtain ⟨rfl, rfl⟩ := hv
  simp only [Nat.mul_one] at hxl hcs ht
  have hcl : cur.toList.length = cap := by simpa using hcs
  obtain ⟨ad, rfl, hc⟩ := hr.src (by rw [nus_length]; exact h0)
  have hrun := run_copy_row (P := P) w dT sT o.type elem g off dLen dCap ad ts.length sCap cur e (nus k ts) hu hsz hh (by rw [nus_length]; exact (Nat.min_eq_left hdl).symm) hc (by rw [nus_length, hcs]; omega) (oneCell_nus _ _)
  unfold Oper.wp
  simp [execOp, ho, resolve, invoke, builtin, hd, hs, hrun, Result.andThen]
  rw [nus_length]
  refine h _ ⟨?_, .inr ⟨g, cap, (splice cur.toList off (nus k ts)).toArray, rfl, hb, ?_, hnc, hcm, ?_, ?_⟩⟩ ⟨rfl, rfl, rfl, by simp [World.setRow], fun k _ hk => setRow_other w g k _ (fun e => hk (by rw [e]))⟩
  · rw [nus_length] at hxl ⊢
    rw [ov_length _ _ _ (by omega), hxl, Nat.mul_one]
  · simpa [splice, nus_length] using setRow_heap w g _ _ e _ hh
  · rw [Nat.mul_one, List.size_toArray]
    unfold splice
    simp only [List.length_append, List.length_take, List.length_drop, nus_length, hcl]
    omega
  · rw [Nat.mul_one, splice_take _ _ _ _ (by rw [nus_length]; exact hfit) (by omega), ht, splice_nus]
end Go.Proofs.Ythjaolngfjfldaa

/- ipfour.Make. -/
namespace Go.Proofs.Ythjaolngfjfldaa
open Go.RowKit

theorem own_in {w : World} {base n g cap : Nat} {e : TypeId} {xs : List Value} (h : w.ownsRow base e 1 (.slice (some ⟨g, 0, none⟩) n cap) n xs) : g < w.heap.size := by
  rcases h.2 with ⟨h1, -⟩ | ⟨g', c', cur, hv, -, h2, -⟩
  · cases h1
  · cases hv
    exact (Array.getElem?_eq_some_iff.1 h2).1
/-- A header of twenty bytes, its checksum 0. -/
def mk0 (s d : List Nat) (p n : Nat) : List Nat := [69, 0] ++ bg 2 (20 + n) ++ [0, 0, 64, 0, 64, p, 0, 0] ++ s ++ d
/-- With its checksum. -/
def mk4 (s d : List Nat) (p n : Nat) : List Nat := ov (mk0 s d p n) (bg 2 (ck (mk0 s d p n))) 10
/-- Whether a header is made. -/
def mkOk (six1 six2 : Bool) (n : Int) : Prop := six1 = false ∧ six2 = false ∧ 0 ≤ n ∧ n ≤ 65515
theorem mk0_steps (s d : List Nat) (hs : s.length = 4) (hd : d.length = 4) (p n : Nat) :
    ov (ov (((putRow (putRow ((List.replicate 20 0).set 0 69) 2 2 (20 + n) 2) 6 2 16384 2).set 8 64).set 9 p) s 12) d 16 = mk0 s d p n := by
  obtain ⟨s0, s1, s2, s3, rfl⟩ : ∃ s0 s1 s2 s3, s = [s0, s1, s2, s3] := by
    match s, hs with
    | [a, b, c, d], _ => exact ⟨a, b, c, d, rfl⟩
  obtain ⟨d0, d1, d2, d3, rfl⟩ : ∃ d0 d1 d2 d3, d = [d0, d1, d2, d3] := by
    match d, hd with
    | [a, b, c, d], _ => exact ⟨a, b, c, d, rfl⟩
  rfl
theorem mk0_length (s d : List Nat) (hs : s.length = 4) (hd : d.length = 4) (p n : Nat) : (mk0 s d p n).length = 20 := by simp [mk0, bg_length, hs, hd]
theorem mk0_lt (s d : List Nat) (p n : Nat) (hs : ∀ c ∈ s, c < 256) (hd : ∀ c ∈ d, c < 256) (hp : p < 256) : ∀ c ∈ mk0 s d p n, c < 256 := by
  intro c hc
  unfold mk0 at hc
  simp only [List.mem_append] at hc
  rcases hc with (((h | h) | h) | h) | h
  · simp at h; omega
  · exact bg_lt 2 _ c h
  · simp at h; omega
  · exact hs c h
  · exact hd c h

set_option maxHeartbeats 1000000 in
theorem make_no (six1 six2 : Bool) (sb db : List Nat) (p : Int) (n : Int) (w : World) (h : ¬ mkOk six1 six2 n) :
    Calls Try.prog 11 #[adr six1 sb, adr six2 db, .int .u8 p, .int .i64 n] w fun e w' => e = .returned (.tuple #[.slice none 0 0, .bool false]) ∧ Below w.heap.size w w' := by
  unfold adr
  have e1 : (cellsA six1 sb)[0]? = some (.bool six1) := cellsA_head _ _
  have e2 : (cellsA six2 db)[0]? = some (.bool six2) := cellsA_head _ _
  generalize cellsA six1 sb = c1 at *
  generalize cellsA six2 db = c2 at *
  have B1 := (Below.refl w.heap.size w).alloc (Nat.le_refl _) (.cells c1 25)
  have HB := Lib.hid (B1.alloc B1.size (.cells c2 25))
  have hc1 := (((Blk.new w 25 c1).alloc (.cells c2 25)).cell 0).trans e1
  have hc2 := ((Blk.new (w.alloc (.cells c1 25)) 25 c2).cell 0).trans e2
  rw [World.size_alloc] at hc2
  unfold mkOk at h
  clear e1 e2 B1
  go_enter Try.func11, Try.ntmps11
  cases six1 with
  | true =>
    clear h
    go_wp2
    go_ret2
    exact ⟨rfl, HB.out⟩
  | false =>
    cases six2 with
    | true =>
      clear h
      go_wp2
      go_ret2
      exact ⟨rfl, HB.out⟩
    | false =>
      by_cases h0 : n < 0
      · clear h
        go_wp2
        go_ret2
        exact ⟨rfl, HB.out⟩
      · have h5 : 65515 < n := by
          rcases Int.lt_or_le 65515 n with h' | h'
          · exact h'
          · exact absurd ⟨rfl, rfl, by omega, h'⟩ h
        clear h
        go_wp2
        go_ret2
        exact ⟨rfl, HB.out⟩

set_option maxRecDepth 100000 in
set_option maxHeartbeats 4000000 in
theorem make_yes (sb db : List Nat) (p n : Nat) (w : World) (hl1 : sb.length = 16) (hl2 : db.length = 16) (hb1 : ∀ c ∈ sb, c < 256) (hb2 : ∀ c ∈ db, c < 256) (hp : p < 256) (hn : n ≤ 65515) :
    Calls Try.prog 11 #[adr false sb, adr false db, .int .u8 (p : Int), .int .i64 (n : Int)] w fun e w' => ∃ x, e = .returned (.tuple #[x, .bool true]) ∧ w'.ownsRow w.heap.size 5 1 x 20 (nus .u8 (mk4 (sb.take 4) (db.take 4) p n)) ∧ Below w.heap.size w w' := by
  have l1 : (sb.take 4).length = 4 := by simp [hl1]
  have l2 : (db.take 4).length = 4 := by simp [hl2]
  have CS := Lib.hid (fun w' => bytes_own false sb hl1 w')
  have CD := Lib.hid (fun w' => bytes_own false db hl2 w')
  unfold bytesA at CS CD
  rw [if_neg (by decide), l1] at CS
  rw [if_neg (by decide), l2] at CD
  unfold adr at CS CD ⊢
  have e1 : (cellsA false sb)[0]? = some (.bool false) := cellsA_head _ _
  have e2 : (cellsA false db)[0]? = some (.bool false) := cellsA_head _ _
  have z1 : (cellsA false sb).size = 17 := by rw [cellsA_size, hl1]
  have z2 : (cellsA false db).size = 17 := by rw [cellsA_size, hl2]
  have I1 := Lib.hid (i24.trans (congrArg some z1.symm))
  have I2 := Lib.hid (i24.trans (congrArg some z2.symm))
  have HM := Lib.hid (mk0_steps (sb.take 4) (db.take 4) l1 l2 p n)
  have HML := Lib.hid (mk0_length (sb.take 4) (db.take 4) l1 l2 p n)
  have HMB := Lib.hid (mk0_lt (sb.take 4) (db.take 4) p n (fun c hc => hb1 c (List.mem_of_mem_take hc)) (fun c hc => hb2 c (List.mem_of_mem_take hc)) hp)
  have HR : Hid (mk4 (sb.take 4) (db.take 4) p n = putRow (mk0 (sb.take 4) (db.take 4) p n) 10 2 (ck (mk0 (sb.take 4) (db.take 4) p n)) 2) := by
    show _ = _
    rw [put_ov]; rfl
  have L1 := Lib.hid l1
  have L2 := Lib.hid l2
  have hck := ck_le (mk0 (sb.take 4) (db.take 4) p n)
  generalize mk4 (sb.take 4) (db.take 4) p n = RES at *
  generalize mk0 (sb.take 4) (db.take 4) p n = M at *
  generalize sb.take 4 = Sb at *
  generalize db.take 4 = Db at *
  generalize cellsA false sb = c1 at *
  generalize cellsA false db = c2 at *
  have B1 := (Below.refl w.heap.size w).alloc (Nat.le_refl _) (.cells c1 25)
  have KA := B1.alloc B1.size (.cells c2 25)
  have n1 := (Blk.new w 25 c1).alloc (.cells c2 25)
  have n2 := Blk.new (w.alloc (.cells c1 25)) 25 c2
  rw [World.size_alloc] at n2
  have hc1 := (n1.cell 0).trans e1
  have hc2 := (n2.cell 0).trans e2
  have N1 := Lib.hid n1
  have N2 := Lib.hid n2
  have K0 := Lib.hid KA
  have hbase := K0.out.size
  obtain ⟨i0, hi, hz0, hz1, hz2⟩ := info_parts Try.info5
  have hnw : IntKind.u16.wrap (20 + (n : Int)) = ((20 + n : Nat) : Int) := by rw [IntKind.wrap_u16]; omega
  clear e1 e2 z1 z2 l1 l2 hl1 hl2 hb1 hb2 B1 KA n1 n2
  go_enter Try.func11, Try.ntmps11
  go_wp2_with (at_make; refine wpList_make_full _ rfl _ _ 22 rfl w.heap.size 5 i0 (.int .u8 0) 1 Try.underlying22 hi hz0 hz1 .i64 .i64 _ _ 20 rfl rfl ?c1 ?c2 ?c3 ?c4 hbase ?_)
  case c1 => omega
  case c2 => omega
  case c3 => rw [hz2]; omega
  case c4 => unfold maxLen; omega
  intro w1 o1 g1
  rw [toList_madeCells_one] at o1
  have O1 := Lib.hid (show w1.ownsRow w.heap.size 5 1 _ 20 (nus .u8 (List.replicate 20 0)) from o1)
  have K1 := Lib.hid (K0.out.grown g1 hbase (fun k hk => by cases hk))
  obtain ⟨g, hg⟩ : ∃ g, g = w.heap.size + 1 + 1 := ⟨_, rfl⟩
  rw [← hg] at O1 ⊢
  have hgl : w.heap.size ≤ g := by omega
  have hg1 : w.heap.size < g := by omega
  have hg2 : w.heap.size + 1 < g := by omega
  have N1 := Lib.hid (show Blk w1 w.heap.size 25 c1 from (g1.block _ N1.out.lt (by simp)).trans N1.out)
  have N2 := Lib.hid (show Blk w1 (w.heap.size + 1) 25 c2 from (g1.block _ N2.out.lt (by simp)).trans N2.out)
  have hgw : g ≤ w1.heap.size := Nat.le_of_lt (own_in O1.out)
  clear o1 g1 hi hz0 hz1 hz2 hg hc1 hc2
  have c0 := O1.out.cellAt 0 (by omega)
  rw [nus_get _ _ _ (by simp)] at c0
  have f0 := O1.out.frozenAt 0
  have hst := O1.out.stored 0 (.int .u8 ((69 : Nat) : Int))
  rw [nus_set] at hst
  have hst : (w1.setCell ⟨g, 0, none⟩ (.int .u8 69)).ownsRow w.heap.size 5 1 (.slice (some ⟨g, 0, none⟩) 20 20) 20 (nus .u8 ((List.replicate 20 0).set 0 69)) ∧ w1.grownBy (w1.setCell ⟨g, 0, none⟩ (.int .u8 69)) (some g) := hst
  have HST := Lib.hid hst
  clear hst
  have h20m : 20 ≤ maxLen := by simp [maxLen]
  go_wp2_with fail
  have O2 := Lib.hid HST.out.1
  have K2 := Lib.hid ((Below.refl g w1).grown HST.out.2 hgw (fun k e => by cases e; exact Nat.le_refl _))
  generalize w1.setCell ⟨g, 0, none⟩ (.int .u8 69) = w2 at O2 K2 ⊢
  clear HST c0 f0 O1
  refine (put16_yes g 20 20 w.heap.size 2 (20 + n) _ w2 O2.out h20m (by omega) (by omega)).mono ?_
  rintro e w3 ⟨rfl, o3, g3⟩
  have O3 := Lib.hid o3
  have K3 := Lib.hid (K2.out.grown g3 (Nat.le_trans hgw K2.out.size) (fun k e => by cases e; exact Nat.le_refl _))
  clear o3 g3 O2 K2
  go_wp2_with fail
  refine (put16_yes g 20 20 w.heap.size 6 16384 _ w3 O3.out h20m (by omega) (by omega)).mono ?_
  rintro e w4 ⟨rfl, o4, g4⟩
  have O4 := Lib.hid o4
  have K4 := Lib.hid (K3.out.grown g4 (Nat.le_trans hgw K3.out.size) (fun k e => by cases e; exact Nat.le_refl _))
  clear o4 g4 O3 K3
  have hrl : (putRow (putRow ((List.replicate 20 0).set 0 69) 2 2 (20 + n) 2) 6 2 16384 2).length = 20 := by
    rw [putRow_length _ _ _ _ _ (by rw [putRow_length _ _ _ _ _ (by simp) (by omega)]; simp) (by omega), putRow_length _ _ _ _ _ (by simp) (by omega)]; simp
  have HRL := Lib.hid hrl
  clear hrl
  obtain ⟨Z, hZ⟩ : ∃ Z, Z = putRow (putRow ((List.replicate 20 0).set 0 69) 2 2 (20 + n) 2) 6 2 16384 2 := ⟨_, rfl⟩
  rw [← hZ] at O4 HM HRL
  clear hZ
  have c8 := O4.out.cellAt 8 (by omega)
  have c9 := O4.out.cellAt 9 (by omega)
  rw [nus_get _ _ _ (by rw [HRL.out]; omega)] at c8 c9
  have f8 := O4.out.frozenAt 8
  have f9 := O4.out.frozenAt 9
  have hst := O4.out.stored 8 (.int .u8 ((64 : Nat) : Int))
  rw [nus_set] at hst
  have hst2 := hst.1.stored 9 (.int .u8 (p : Int))
  rw [nus_set] at hst2
  have HST := Lib.hid hst
  have HST2 := Lib.hid (show ((w4.setCell ⟨g, 8, none⟩ (.int .u8 64)).setCell ⟨g, 9, none⟩ (.int .u8 (p : Int))).ownsRow w.heap.size 5 1 (.slice (some ⟨g, 0, none⟩) 20 20) 20 (nus .u8 ((Z.set 8 64).set 9 p)) ∧ (w4.setCell ⟨g, 8, none⟩ (.int .u8 64)).grownBy ((w4.setCell ⟨g, 8, none⟩ (.int .u8 64)).setCell ⟨g, 9, none⟩ (.int .u8 (p : Int))) (some g) from hst2)
  have K5 := Lib.hid (show Below g w1 (w4.setCell ⟨g, 8, none⟩ (.int .u8 64)) from K4.out.grown hst.2 (Nat.le_trans hgw K4.out.size) (fun k e => by cases e; exact Nat.le_refl _))
  clear hst hst2
  generalize Z.getD 8 0 = y8 at c8
  generalize Z.getD 9 0 = y9 at c9
  go_wp2_with fail
  have O6 := Lib.hid HST2.out.1
  have K6 := Lib.hid (K5.out.grown HST2.out.2 (Nat.le_trans hgw K5.out.size) (fun k e => by cases e; exact Nat.le_refl _))
  generalize (w4.setCell ⟨g, 8, none⟩ (.int .u8 64)).setCell ⟨g, 9, none⟩ (.int .u8 (p : Int)) = w6 at O6 K6 ⊢
  clear HST HST2 c8 c9 f8 f9 K5 K4 O4
  refine wp_region_held (S := (fun w' : World => Below g w1 w')) (by kernel_rfl) ?_
  change wpAnyH _ _ _ _ _ _ _ _ w6.drew
  have hE0 : Below g w1 w6.drew := K6.out.drew
  have qP6 := row_under O6.out (show Below w6.heap.size w6 w6.drew from (Below.refl _ _).drew)
  generalize w6.drew = Y0 at hE0 qP6 ⊢
  have E0 := Lib.hid hE0
  have P6 := Lib.hid qP6
  clear hE0 qP6
  refine wpAnyH_take (i := 0) (oi := { dst := some 40, op := Op.move (Operand.tmp 10), type := 22, pos := "ipfour.go:111", after := #[], guard := none }) (v := ?_) rfl (by kernel_rfl) (by kernel_rfl) (by kernel_rfl) (fun _ _ _ h => h) (Or.inl ⟨by rfl, ?_⟩) E0.out ?_
  rotate_left
  · (intro w1 hS; go_simp; try with_reducible rfl)
  simp only [Act.put, List.setIfInBounds_toArray, List.set_cons_zero, List.set_cons_succ]
  refine wpAnyH_take (i := 1) (oi := { dst := some 41, op := Op.slice 22 (Operand.tmp 40) (some (Operand.const (Value.int IntKind.i64 12))) none none, type := 22, pos := "ipfour.go:111", after := #[{ on := 0, ground := Ground.data }], guard := none }) (v := ?_) rfl (by kernel_rfl) (by kernel_rfl) (by kernel_rfl) (fun _ _ _ h => h) (Or.inl ⟨by rfl, ?_⟩) E0.out ?_
  rotate_left
  · (intro w1 hS; have hW := hS; have q : (12 : Int) ≤ (20 : Int) := (by omega); clear hW hS; go_simp; try with_reducible rfl)
  simp only [Act.put, List.setIfInBounds_toArray, List.set_cons_zero, List.set_cons_succ]
  refine wpAnyH_take (i := 2) (oi := { dst := some 42, op := Op.load 25 (Operand.tmp 4), type := 25, pos := "ipfour.go:111", after := #[], guard := none }) (v := .agg c1) rfl (by kernel_rfl) (by kernel_rfl) (by kernel_rfl) (fun _ _ _ h => h) (Or.inl ⟨by rfl, ?_⟩) E0.out ?_
  · (intro w1 hS; have hW := hS; exact exec_load 25 (.tmp 4) rfl _ rfl _ (run_blk_load (P := Try.prog) 25 w.heap.size _ (N1.out.below hW hg1) Try.underlying25 rfl I1.out))
  simp only [Act.put, List.setIfInBounds_toArray, List.set_cons_zero, List.set_cons_succ]
  refine wpAnyH_ready (rs := [3]) (by kernel_rfl) (by simp) ?_
  refine AllReadyH.cons (o := { dst := some 43, op := Op.call { callee := Callee.value (Operand.func 27), args := #[Operand.tmp 42], argTypes := #[25] }, type := 22, pos := "ipfour.go:111", after := #[{ on := 2, ground := Ground.data }], guard := none }) rfl (fun K hK => ?_) AllReadyH.nil
  go_simp
  refine (CS.out Y0).mono ?_
  rintro e Y1 ⟨z, rfl, hz, hy⟩
  have E1 := Lib.hid (E0.out.trans (hy.mono (Nat.le_trans hgw E0.out.size)))
  have C1 := Lib.hid E1.out
  have Q6 := Lib.hid (row_under P6.out hy)
  have ZZ := Lib.hid hz
  clear hz P6
  clear hy E0
  refine hK.out _ _ C1.out (fun _ => ?_)
  clear hK K
  try simp only [Act.put, List.setIfInBounds_toArray, List.set_cons_zero, List.set_cons_succ]
  clear C1
  obtain ⟨gz, cz, rfl, -, -, -, -⟩ := own_at ZZ.out (by omega)
  refine wpAnyH_ready (rs := [4]) (by kernel_rfl) (by simp) ?_
  refine AllReadyH.cons (o := { dst := some 44, op := Op.call { callee := Callee.builtin Builtin.copy, args := #[Operand.tmp 41, Operand.tmp 43], argTypes := #[22, 22] }, type := 3, pos := "ipfour.go:111", after := #[{ on := 1, ground := Ground.data }, { on := 3, ground := Ground.data }, { on := 3, ground := Ground.chain }], guard := none }) rfl (fun K hK => ?_) AllReadyH.nil
  rw [if_pos (by rfl)]
  refine wp_copy_into (.tmp 41) (.tmp 43) 22 22 rfl 5 Try.underlying22 Try.size5 g 12 20 20 w.heap.size 8 8 5 .u8 ((Z.set 8 64).set 9 p) Sb (some ⟨gz, 0, none⟩) 4 cz rfl rfl Q6.out (Rd.own ZZ.out) (by omega) (by omega) (by omega) ?_
  intro v6 o6 g6
  have O7 := o6
  have K7 := Lib.hid (E1.out.grown g6 (Nat.le_trans hgw E1.out.size) (fun k e => by cases e; exact Nat.le_refl _))
  clear ZZ o6 g6 Q6 E1
  refine hK.out _ _ K7.out (fun _ => ?_)
  clear hK K
  try simp only [Act.put, List.setIfInBounds_toArray, List.set_cons_zero, List.set_cons_succ]
  refine wpAnyH_done (by kernel_rfl) ?_ _
  go_wp2_with fail
  refine wp_region_held (S := (fun w' : World => Below g w1 w')) (by kernel_rfl) ?_
  change wpAnyH _ _ _ _ _ _ _ _ v6.drew
  have hE0 : Below g w1 v6.drew := K7.out.drew
  have qP7 := row_under O7.out (show Below v6.heap.size v6 v6.drew from (Below.refl _ _).drew)
  generalize v6.drew = Y0 at hE0 qP7 ⊢
  have E0 := Lib.hid hE0
  have P7 := Lib.hid qP7
  clear hE0 qP7
  refine wpAnyH_take (i := 0) (oi := { dst := some 45, op := Op.move (Operand.tmp 10), type := 22, pos := "ipfour.go:112", after := #[], guard := none }) (v := ?_) rfl (by kernel_rfl) (by kernel_rfl) (by kernel_rfl) (fun _ _ _ h => h) (Or.inl ⟨by rfl, ?_⟩) E0.out ?_
  rotate_left
  · (intro w1 hS; go_simp; try with_reducible rfl)
  simp only [Act.put, List.setIfInBounds_toArray, List.set_cons_zero, List.set_cons_succ]
  refine wpAnyH_take (i := 1) (oi := { dst := some 46, op := Op.slice 22 (Operand.tmp 45) (some (Operand.const (Value.int IntKind.i64 16))) none none, type := 22, pos := "ipfour.go:112", after := #[{ on := 0, ground := Ground.data }], guard := none }) (v := ?_) rfl (by kernel_rfl) (by kernel_rfl) (by kernel_rfl) (fun _ _ _ h => h) (Or.inl ⟨by rfl, ?_⟩) E0.out ?_
  rotate_left
  · (intro w1 hS; have hW := hS; have q : (16 : Int) ≤ (20 : Int) := (by omega); clear hW hS; go_simp; try with_reducible rfl)
  simp only [Act.put, List.setIfInBounds_toArray, List.set_cons_zero, List.set_cons_succ]
  refine wpAnyH_take (i := 2) (oi := { dst := some 47, op := Op.load 25 (Operand.tmp 5), type := 25, pos := "ipfour.go:112", after := #[], guard := none }) (v := .agg c2) rfl (by kernel_rfl) (by kernel_rfl) (by kernel_rfl) (fun _ _ _ h => h) (Or.inl ⟨by rfl, ?_⟩) E0.out ?_
  · (intro w1 hS; have hW := hS; exact exec_load 25 (.tmp 5) rfl _ rfl _ (run_blk_load (P := Try.prog) 25 (w.heap.size + 1) _ (N2.out.below hW hg2) Try.underlying25 rfl I2.out))
  simp only [Act.put, List.setIfInBounds_toArray, List.set_cons_zero, List.set_cons_succ]
  refine wpAnyH_ready (rs := [3]) (by kernel_rfl) (by simp) ?_
  refine AllReadyH.cons (o := { dst := some 48, op := Op.call { callee := Callee.value (Operand.func 27), args := #[Operand.tmp 47], argTypes := #[25] }, type := 22, pos := "ipfour.go:112", after := #[{ on := 2, ground := Ground.data }], guard := none }) rfl (fun K hK => ?_) AllReadyH.nil
  go_simp
  refine (CD.out Y0).mono ?_
  rintro e Y1 ⟨z, rfl, hz, hy⟩
  have E1 := Lib.hid (E0.out.trans (hy.mono (Nat.le_trans hgw E0.out.size)))
  have C1 := Lib.hid E1.out
  have Q7 := Lib.hid (row_under P7.out hy)
  have ZZ := Lib.hid hz
  clear hz P7
  clear hy E0
  refine hK.out _ _ C1.out (fun _ => ?_)
  clear hK K
  try simp only [Act.put, List.setIfInBounds_toArray, List.set_cons_zero, List.set_cons_succ]
  clear C1
  obtain ⟨gz, cz, rfl, -, -, -, -⟩ := own_at ZZ.out (by omega)
  refine wpAnyH_ready (rs := [4]) (by kernel_rfl) (by simp) ?_
  refine AllReadyH.cons (o := { dst := some 49, op := Op.call { callee := Callee.builtin Builtin.copy, args := #[Operand.tmp 46, Operand.tmp 48], argTypes := #[22, 22] }, type := 3, pos := "ipfour.go:112", after := #[{ on := 1, ground := Ground.data }, { on := 3, ground := Ground.data }, { on := 3, ground := Ground.chain }], guard := none }) rfl (fun K hK => ?_) AllReadyH.nil
  rw [if_pos (by rfl)]
  refine wp_copy_into (.tmp 46) (.tmp 48) 22 22 rfl 5 Try.underlying22 Try.size5 g 16 20 20 w.heap.size 4 4 5 .u8 (ov ((Z.set 8 64).set 9 p) Sb 12) Db (some ⟨gz, 0, none⟩) 4 cz rfl rfl Q7.out (Rd.own ZZ.out) (by omega) (by omega) (by omega) ?_
  intro v7 o7 g7
  have O8 := o7
  have K8 := Lib.hid (E1.out.grown g7 (Nat.le_trans hgw E1.out.size) (fun k e => by cases e; exact Nat.le_refl _))
  clear ZZ o7 g7 Q7 E1
  refine hK.out _ _ K8.out (fun _ => ?_)
  clear hK K
  try simp only [Act.put, List.setIfInBounds_toArray, List.set_cons_zero, List.set_cons_succ]
  refine wpAnyH_done (by kernel_rfl) ?_ _
  rw [HM.out] at O8
  go_wp2_with fail
  refine (check_any _ M _ (Rd.own O8.out) (by rw [HML.out]; omega) HMB.out).mono ?_
  rintro e w9 ⟨rfl, hy⟩
  have O9 := Lib.hid (row_under O8.out hy)
  have K9 := Lib.hid (K8.out.trans (hy.mono (Nat.le_trans hgw K8.out.size)))
  clear hy O8 K8
  go_wp2_with fail
  refine (put16_yes g 20 20 w.heap.size 10 _ _ w9 O9.out h20m (by omega) (by omega)).mono ?_
  rintro e w10 ⟨rfl, o10, g10⟩
  have O10 := Lib.hid o10
  have K10 := Lib.hid (K9.out.grown g10 (Nat.le_trans hgw K9.out.size) (fun k e => by cases e; exact Nat.le_refl _))
  clear o10 g10 O9 K9
  rw [← HR.out] at O10
  go_wp2
  go_ret2
  exact ⟨_, rfl, O10.out, K1.out.trans (K10.out.mono hgl)⟩
end Go.Proofs.Ythjaolngfjfldaa

/- A store into a part of a block that is known whole. Nothing of the program. -/
namespace Go.Proofs.Ythjaolngfjfldaa
open Go.RowKit
theorem Blk.thereAt {w : World} {g : Nat} {t : TypeId} {cs : Array Value} (h : Blk w g t cs) {o n : Nat} (hn : o + n ≤ cs.size) : w.there g o n := fun j hj => by
  rw [h.cell (o + j), h.frozen (o + j)]
  simp
  omega
theorem wpList_part_store {P : Program} {w : World} {g : Nat} {t : TypeId} {cs : Array Value} {ops : Array Oper} {rest : List Oper} {op : Oper} {a : Act} {Q : Exit → Act → World → Prop} (hgd : op.guard = none) (ty : TypeId) (x y : Operand) (ho : op.op = .store ty x y)
    (off : Nat) (vs : Array Value) (hx : a.eval x = .pointer (some ⟨g, off, none⟩)) (hy : a.eval y = .agg vs) (hc : Blk w g t cs) (hs : off + vs.size ≤ cs.size)
    (hi : (P.info? ty).map (·.size) = some vs.size) (h1 : vs.all (·.oneCell') = true)
    (h : ∀ w', Blk w' g t (setL cs off vs.toList) → (∀ k, k ≠ g → w'.heap[k]? = w.heap[k]?) → (∀ B, B ≤ g → Below B w w') → wpList P ops Q rest (a.put op.dst undef) w') : wpList P ops Q (op :: rest) a w :=
  wpList_store_mid hgd ty x y ho g off vs hx hy (hc.thereAt hs) hi h1
    (h _ (Blk.setCells vs.toList off w cs hc) (fun k hk => setCells_far k hk _ _ _) (fun _ hB => setCells_below hB _ _ _ (Below.refl _ _)))
end Go.Proofs.Ythjaolngfjfldaa

