/- The walk of SumZero. -/
import Derived.Test.YtjcmidgeddhfoaaCZ
import Derived.Deep.CutBlock
import Derived.Deep.DeepCutAuto
import Derived.Deep.RegionHeld3
namespace Go.Proofs.Ytjcmidgeddhfoaa
open Go.RowKit Go.Sort

theorem tmp_at {a : Act} {s : Nat} {v : Value} (h : a.eval (.tmp s) = v) : a.tmps[s]?.getD undef = v := by
  rw [← h]; simp [Act.eval, Array.getD_eq_getD_getElem?]
theorem st_u8 (Q : Exit → Act → World → Prop) (d s : Nat) (t : TypeId) (pos : String) (af : Array Edge) (K : Act → World → Prop) (a : Act) (w : World) (b j x : Nat) (h : a.eval (.tmp s) = .pointer (some ⟨b, j, none⟩)) (h2 : a.eval (.tmp d) = .int .u8 (x : Int))
    (hc : ∃ v, w.cell? ⟨b, j, none⟩ = some v) (hf : w.frozen? ⟨b, j, none⟩ = false) (hK : K a (w.setCell ⟨b, j, none⟩ (.int .u8 (x : Int)))) :
    Oper.wp Try.prog { dst := none, op := Op.store 5 (.tmp s) (.tmp d), type := t, pos := pos, after := af, guard := none } a w K Q := by
  obtain ⟨v, hc⟩ := hc
  have h' := tmp_at h
  have h2' := tmp_at h2
  clear h h2
  go_simp
  exact hK
def Held (b p0 p1 p2 p3 : Nat) (v0 v1 v2 v3 : Int) (w' : World) : Prop := w'.cell? ⟨b, p0, none⟩ = some (.int .u8 v0) ∧ w'.cell? ⟨b, p1, none⟩ = some (.int .u8 v1) ∧ w'.cell? ⟨b, p2, none⟩ = some (.int .u8 v2) ∧ w'.cell? ⟨b, p3, none⟩ = some (.int .u8 v3)
theorem rd_block {w : World} {b o len cap : Nat} {k : IntKind} {bs : List Nat} (h : Rd w (.slice (some ⟨b, o, none⟩) len cap) (nus k bs)) (h0 : 0 < len) : b < w.heap.size := by
  obtain ⟨a', cap', e, _, _, h⟩ := h
  simp only [Value.slice.injEq, nus_length] at e
  obtain ⟨e1, e2, -⟩ := e
  rcases h with h | ⟨b', off, he, hb, hc⟩
  · have : bs.length = 0 := by rw [(nus_nil _ _).1 h]; rfl
    omega
  · rw [← e1] at he
    cases he
    exact hb
theorem own_cell {w : World} {base d n cap : Nat} {e : TypeId} {xs : List Value} (h : w.ownsRow base e 1 (.slice (some ⟨d, 0, none⟩) n cap) n xs) (j : Nat) (hj : j < n) : ∃ v, w.cell? ⟨d, j, none⟩ = some v := by
  have hl : xs.length = n := by have := h.1; simpa using this
  exact ⟨xs[j]'(by omega), (h.cellAt j (by omega)).trans (List.getElem?_eq_getElem (by omega))⟩
theorem held_set {w : World} (b p0 p1 p2 p3 : Nat) (v0 v1 v2 v3 : Int) (d j : Nat) (x : Int) (hbd : b ≠ d) (h : Held b p0 p1 p2 p3 v0 v1 v2 v3 w) : Held b p0 p1 p2 p3 v0 v1 v2 v3 (w.setCell ⟨d, j, none⟩ (.int .u8 x)) := by
  obtain ⟨h0, h1, h2, h3⟩ := h
  refine ⟨?_, ?_, ?_, ?_⟩
  · rw [World.cell?_setCell_far _ _ _ _ (show d ≠ b from fun e => hbd e.symm)]; exact h0
  · rw [World.cell?_setCell_far _ _ _ _ (show d ≠ b from fun e => hbd e.symm)]; exact h1
  · rw [World.cell?_setCell_far _ _ _ _ (show d ≠ b from fun e => hbd e.symm)]; exact h2
  · rw [World.cell?_setCell_far _ _ _ _ (show d ≠ b from fun e => hbd e.symm)]; exact h3

set_option maxRecDepth 100000 in
set_option maxHeartbeats 2000000 in
theorem zero_no (vb : Value) (B : List Nat) (i0 j0 : Int) (w : World) (hb : Rd w vb (nus .u8 B)) (hno : 1000 < B.length) :
    Calls Try.prog 5 #[vb, .int .i64 i0, .int .i64 j0] w fun e w' => e = .returned (.bool true) ∧ Below w.heap.size w w' := by
  obtain ⟨a0, c0, rfl, h0, k0, -⟩ := hb
  rw [nus_length] at h0
  rw [nus_length]
  unfold maxLen at k0
  generalize B.length = l0 at *
  go_enter Try.func5, Try.ntmps5
  go_wp2_with fail
  refine (awake_any _).mono ?_
  rintro e w2 ⟨rfl, hb⟩
  go_wp2
  go_ret
  exact ⟨rfl, hb⟩

set_option maxRecDepth 100000 in
set_option maxHeartbeats 4000000 in
theorem zero_yes (a0 : Option Addr) (l0 c0 : Nat) (B : List Nat) (i0 j0 : Int) (w : World) (hb : Rd w (.slice a0 l0 c0) (nus .u8 B)) (hnb : a0 = none → c0 = 0)
    (hB : B.length = l0) (h1 : l0 ≤ 1000) (bB : ∀ c ∈ B, c < 256) :
    Calls Try.prog 5 #[.slice a0 l0 c0, .int .i64 i0, .int .i64 j0] w fun e w' => e = .returned (.bool true) ∧ Below w.heap.size w w' := by
  have RB := Lib.hid hb
  have HB := Lib.hid hB
  have NB := Lib.hid hnb
  have BB := Lib.hid bB
  clear hb hB hnb bB
  go_enter Try.func5, Try.ntmps5
  go_upto_if 19 with fail
  go_cut [0] (fun v wx => ∃ a len cap E, v = .slice a len cap ∧ Rd wx (.slice a len cap) (nus .u8 E) ∧ E.length = len ∧ len % 2 = 0 ∧ len ≤ 1001 ∧ (∀ c ∈ E, c < 256) ∧ (a = none → cap = 0) ∧ Below w.heap.size w wx)
  case first =>
    by_cases hodd : l0 % 2 = 1
    · have ho : (((l0 : Int) % 2) == 1) = true := by rw [beq_iff_eq]; omega
      have b7 := (Below.refl w.heap.size w).alloc (Nat.le_refl _) (.cells #[] 5)
      have RB7 := Lib.hid (RB.out.below b7)
      have O7 := Lib.hid (own_none w 5)
      have B7 := Lib.hid b7
      clear b7
      go_wp2_with (at_builtin; refine wpList_app rfl (.tmp 20) (.tmp 21) rfl w.heap.size _ 0 [] rfl O7.out a0 l0 c0 B rfl RB7.out NB.out ?d2 ?d3 ?d4)
      case d2 => omega
      case d3 => simp
      intro v8 w8 o8 g8
      have b8 := B7.out.grown g8 B7.out.size (fun k e => by cases e; exact Nat.le_refl _)
      have b9 := b8.alloc b8.size (.cells (nus .u8 [0]).toArray 5)
      have r9 := rd_lit w8 .u8 5 [0] 1 (0, 0) rfl (by simp [maxLen])
      have o9 := o8.alloc (.cells (nus .u8 [0]).toArray 5)
      have O9 := Lib.hid o9
      have R9 := Lib.hid r9
      have B9 := Lib.hid b9
      have hs8 := b8.size
      clear o8 g8 b8 b9 r9 o9 O7 B7 RB7
      go_wp2_with (at_builtin; refine wpList_app rfl (.tmp 22) (.tmp 23) rfl w.heap.size _ l0 B rfl O9.out (some ⟨w8.heap.size, 0, none⟩) 1 1 [0] rfl R9.out (fun h => by cases h) ?e2 ?e3 ?e4)
      case e2 => omega
      case e3 => simp; omega
      intro v10 w10 o10 g10
      have b10 := B9.out.grown g10 B9.out.size (fun k e => (O9.out.lt k e).1)
      obtain ⟨g, cap, rfl, -, -, -⟩ := own_some o10 (by omega)
      go_wp2
      go_meet
      exact ⟨_, l0 + 1, _, B ++ [0], rfl, Rd.own o10, by rw [List.length_append, HB.out]; rfl, by omega, by omega, mem_snoc0 B BB.out, (fun h => by cases h), b10⟩
    · have ho : (((l0 : Int) % 2) == 1) = false := by rw [beq_eq_false_iff_ne]; omega
      go_wp2_with fail
      go_meet
      exact ⟨_, l0, _, B, rfl, RB.out, HB.out, by omega, by omega, BB.out, NB.out, Below.refl _ _⟩
  case rest =>
    obtain ⟨a, len, cap, E, rfl, re, hE, hev, hle, bE, hna, hbx⟩ := hcut
    have hzc := zero_ck E (by omega)
    have hs := ck_le E
    have RE := Lib.hid re
    have HE := Lib.hid hE
    have BE := Lib.hid bE
    have NE := Lib.hid hna
    have BX := Lib.hid hbx
    have HC := fun W (hR : Rd W (.slice a len cap) (nus .u8 E)) => check_any _ E W hR (by rw [hE]; omega) bE
    obtain ⟨s, hse⟩ : ∃ s, s = ck E := ⟨_, rfl⟩
    rw [← hse] at hzc hs HC
    have hs0 : len = 0 → s = 65535 := by
      intro h0
      have : E = [] := List.eq_nil_of_length_eq_zero (by omega)
      rw [hse, this]; rfl
    have HCC := Lib.hid HC
    have HZC := Lib.hid hzc
    have HSE := Lib.hid hse
    have HS0 := Lib.hid hs0
    clear re hE bE hna hbx HC hzc hse hs0 RB HB NB BB
    go_wp2_with fail
    refine (HCC.out _ RE.out).mono ?_
    rintro e w1 ⟨rfl, hb1⟩
    have RE1 := Lib.hid (RE.out.below hb1)
    have B1 := Lib.hid (BX.out.trans (hb1.mono BX.out.size))
    have b2 := B1.out.alloc B1.out.size (.cells #[] 5)
    have RE2 := Lib.hid (RE1.out.below ((Below.refl w1.heap.size w1).alloc (Nat.le_refl _) (.cells #[] 5)))
    have O2 := Lib.hid (own_none w1 5)
    have B2 := Lib.hid b2
    have hs1 := B1.out.size
    clear hb1 RE BX b2
    go_wp2_with (at_builtin; refine wpList_app rfl (.tmp 27) (.tmp 28) rfl w1.heap.size _ 0 [] rfl O2.out a len cap E rfl RE2.out NE.out ?m2 ?m3 ?m4)
    case m2 => omega
    case m3 => simp
    intro v3 w3 o3 g3
    have b3 := B2.out.grown g3 B2.out.size (fun k e => by cases e; exact hs1)
    have hs3 : w1.heap.size ≤ w3.heap.size := by have := g3.size; simp at this; omega
    have r4 := rd_lit w3 .u8 5 [s / 256, s % 256] 2 (0, 0) rfl (by simp [maxLen])
    have o4 := o3.alloc (.cells (nus .u8 [s / 256, s % 256]).toArray 5)
    have b4 := b3.alloc b3.size (.cells (nus .u8 [s / 256, s % 256]).toArray 5)
    have ec : (#[.int .u8 ((s : Int) / 256), .int .u8 ((s : Int) % 256)] : Array Value) = (nus .u8 [s / 256, s % 256]).toArray := by simp [nus]
    rw [← ec] at r4 o4 b4
    have R4 := Lib.hid r4
    have O4 := Lib.hid o4
    have B4 := Lib.hid b4
    have hb14 := ((((Below.refl w1.heap.size w1).alloc (Nat.le_refl _) (.cells #[] 5)).grown g3 (by simp) (fun k e => by cases e; exact Nat.le_refl _)).alloc hs3 (.cells #[.int .u8 ((s : Int) / 256), .int .u8 ((s : Int) % 256)] 5))
    clear o3 g3 b3 r4 o4 b4 ec O2 B2 RE2
    go_wp2_with (at_builtin; refine wpList_app rfl (.tmp 29) (.tmp 35) rfl w1.heap.size _ len E rfl O4.out (some ⟨w3.heap.size, 0, none⟩) 2 2 [s / 256, s % 256] rfl R4.out (fun h => by cases h) ?n2 ?n3 ?n4)
    case n2 => omega
    case n3 => simp; omega
    intro v5 w5 o5 g5
    have hb45 := (Below.refl w1.heap.size (w3.alloc (.cells #[.int .u8 ((s : Int) / 256), .int .u8 ((s : Int) % 256)] 5))).grown g5 (by simp; omega) (fun k e => (O4.out.lt k e).1)
    have b5 := B4.out.grown g5 B4.out.size (fun k e => Nat.le_trans hs1 ((O4.out.lt k e).1))
    have R5 := Lib.hid (Rd.own o5)
    have B5 := Lib.hid b5
    obtain ⟨g, c5, rfl, -, -, -⟩ := own_some o5 (by omega)
    have RE5 := Lib.hid (RE1.out.below (hb14.trans hb45))
    have hcb : s / 256 < 256 ∧ s % 256 < 256 := by omega
    have BE5 := Lib.hid (mem_app2 BE.out hcb.1 hcb.2)
    clear hb14 hb45 o5 g5 b5 O4 B4 R4 RE1 B1
    go_wp2_with fail
    refine (check_any _ (E ++ [s / 256, s % 256]) _ R5.out (by rw [List.length_append, HE.out]; simp; omega) BE5.out).mono ?_
    rintro e w6 ⟨rfl, hb6⟩
    rw [HZC.out]
    have RE6 := Lib.hid (RE5.out.below hb6)
    have B6 := Lib.hid (B5.out.trans (hb6.mono B5.out.size))
    clear hb6 RE5 R5 B5 BE5 hcb
    go_wp2_with fail
    refine (alike_any 0 0 _ (by omega) (by omega)).mono ?_
    rintro e w' ⟨rfl, rfl⟩
    rw [show decide (0 % 65535 = 0 % 65535) = true from rfl]
    by_cases hl0 : len = 0
    · obtain rfl : s = 65535 := HS0.out hl0
      subst hl0
      go_wp2_with fail
      refine (awake_any _).mono ?_
      rintro e w7 ⟨rfl, hb7⟩
      go_wp2
      go_ret
      exact ⟨rfl, B6.out.trans (hb7.mono B6.out.size)⟩
    · obtain ⟨m, hm⟩ : ∃ m, len = 2 * m := ⟨len / 2, by omega⟩
      have hmi : (len : Int) / 2 = (m : Int) := by omega
      have hl0' : ((len : Int) == 0) = false := by rw [beq_eq_false_iff_ne]; omega
      obtain ⟨p, hp, hpl⟩ : ∃ p : Nat, i0 % (m : Int) = p ∧ p < m := ⟨(i0 % (m : Int)).toNat, by have := Int.emod_nonneg i0 (show (m : Int) ≠ 0 by omega); omega, by have := Int.emod_lt_of_pos i0 (show (0 : Int) < (m : Int) by omega); have := Int.emod_nonneg i0 (show (m : Int) ≠ 0 by omega); omega⟩
      obtain ⟨q, hq, hql⟩ : ∃ q : Nat, j0 % (m : Int) = q ∧ q < m := ⟨(j0 % (m : Int)).toNat, by have := Int.emod_nonneg j0 (show (m : Int) ≠ 0 by omega); omega, by have := Int.emod_lt_of_pos j0 (show (0 : Int) < (m : Int) by omega); have := Int.emod_nonneg j0 (show (m : Int) ≠ 0 by omega); omega⟩
      have HP := Lib.hid hp
      have HQ := Lib.hid hq
      have HM := Lib.hid hm
      have hml : m ≤ 600 ∧ 0 < m := by omega
      clear hp hq hm
      go_wp2_with fail
      refine (round_any i0 m _ (by omega) (by omega)).mono ?_
      rintro e w' ⟨rfl, rfl⟩
      rw [HP.out]
      go_wp2_with fail
      refine (round_any j0 m _ (by omega) (by omega)).mono ?_
      rintro e w' ⟨rfl, rfl⟩
      rw [HQ.out]
      obtain ⟨x, hx, hxm⟩ : ∃ x : Nat, 2 * (p : Int) = (x : Int) ∧ x = 2 * p := ⟨2 * p, by omega, rfl⟩
      obtain ⟨y, hy, hym⟩ : ∃ y : Nat, 2 * (q : Int) = (y : Int) ∧ y = 2 * q := ⟨2 * q, by omega, rfl⟩
      have hsw := Lib.hid (swp_ck E x y (by omega) (by omega) (by rw [HE.out, HM.out]; omega) (by rw [HE.out, HM.out]; omega))
      have hxl : x + 1 < len := by rw [HM.out]; omega
      have hyl : y + 1 < len := by rw [HM.out]; omega
      have hxe : x % 2 = 0 := by omega
      have hye : y % 2 = 0 := by omega
      obtain ⟨b, o, rfl, -⟩ := RE6.out.cells (by omega)
      have bl6 := rd_block RE6.out (by omega)
      have b7 := B6.out.alloc B6.out.size (.cells #[] 5)
      have RE7 := Lib.hid (RE6.out.below ((Below.refl w6.heap.size w6).alloc (Nat.le_refl _) (.cells #[] 5)))
      have O7 := Lib.hid (own_none w6 5)
      have B7 := Lib.hid b7
      have hs6 := B6.out.size
      have HX := Lib.hid hx
      have HY := Lib.hid hy
      have hpq : p ≤ 600 ∧ q ≤ 600 := by omega
      clear b7 hxm hym hpl hql hml hx hy
      go_wp2_with (at_builtin; refine wpList_app rfl (.tmp 61) (.tmp 62) rfl w6.heap.size _ 0 [] rfl O7.out (some ⟨b, o, none⟩) len cap E rfl RE7.out NE.out ?p2 ?p3 ?p4)
      case p2 => omega
      case p3 => simp
      intro v8 w8 o8 g8
      have b68 := ((Below.refl w6.heap.size w6).alloc (Nat.le_refl _) (.cells #[] 5)).grown g8 (by simp) (fun k e => by cases e; exact Nat.le_refl _)
      have RE8 := Lib.hid (RE6.out.below b68)
      have B8 := Lib.hid (B6.out.trans (b68.mono hs6))
      obtain ⟨d, c8, rfl, hd1, hd2, hd3⟩ := own_some o8 (by omega)
      have O8 := Lib.hid o8
      clear o8 g8 b68 RE6 B6 O7 B7 RE7
      go_wp2_with fail
      rw [HX.out, HY.out]
      have hbd : b ≠ d := by omega
      have hd4 : w.heap.size ≤ d := by omega
      have hcx := RE8.out.cells (by omega)
      obtain ⟨b', o', he, hce⟩ := hcx
      cases he
      have f0 := hce y (by omega)
      have f1 := hce (y + 1) hyl
      have f2 := hce x (by omega)
      have f3 := hce (x + 1) hxl
      have hswp : Hid ((((E.set x (E.getD y 0)).set (x + 1) (E.getD (y + 1) 0)).set y (E.getD x 0)).set (y + 1) (E.getD (x + 1) 0) = swp E x y) := show _ = _ from rfl
      obtain ⟨y0, hy0⟩ : ∃ v, v = E.getD y 0 := ⟨_, rfl⟩
      obtain ⟨y1, hy1⟩ : ∃ v, v = E.getD (y + 1) 0 := ⟨_, rfl⟩
      obtain ⟨x0, hx0⟩ : ∃ v, v = E.getD x 0 := ⟨_, rfl⟩
      obtain ⟨x1, hx1⟩ : ∃ v, v = E.getD (x + 1) 0 := ⟨_, rfl⟩
      rw [← hy0] at f0 hswp
      rw [← hy1] at f1 hswp
      rw [← hx0] at f2 hswp
      rw [← hx1] at f3 hswp
      have hS0 : Held b (o + y) (o + (y + 1)) (o + x) (o + (x + 1)) y0 y1 x0 x1 w8.drew := ⟨f0, f1, f2, f3⟩
      have OD0 := Lib.hid O8.out.drew
      have BD0 := Lib.hid B8.out.drew
      have hxw : IntKind.i64.wrap ((x : Int) + 1) = (x : Int) + 1 := by rw [IntKind.wrap_i64]; omega
      have hyw : IntKind.i64.wrap ((y : Int) + 1) = (y : Int) + 1 := by rw [IntKind.wrap_i64]; omega
      have hx2 : x < len := by omega
      have hy2 : y < len := by omega
      have hxi : (0 : Int) ≤ (x : Int) + 1 ∧ (x : Int) + 1 < (len : Int) := by omega
      have hyi : (0 : Int) ≤ (y : Int) + 1 ∧ (y : Int) + 1 < (len : Int) := by omega
      have hxt : ((x : Int) + 1).toNat = x + 1 := by omega
      have hyt : ((y : Int) + 1).toNat = y + 1 := by omega
      clear hce f0 f1 f2 f3 hy0 hy1 hx0 hx1 O8 B8 RE8
      refine wp_region_held (S := Held b (o + y) (o + (y + 1)) (o + x) (o + (x + 1)) y0 y1 x0 x1) (by kernel_rfl) ?_
      change wpAnyH _ _ _ _ _ _ _ _ w8.drew
      generalize w8.drew = wd0 at hS0 OD0 BD0 ⊢
      refine wpAnyH_take (i := 0) (oi := { dst := some 64, op := Op.move (Operand.tmp 11), type := 22, pos := "law.go:62", after := #[], guard := none }) (v := ?_) rfl (by kernel_rfl) (by kernel_rfl) (by kernel_rfl) (fun _ _ _ h => h) (Or.inl ⟨by rfl, ?_⟩) hS0 ?_
      rotate_left
      · (intro w1 hSw; obtain ⟨q1, q2, q3, q4⟩ := hSw; go_simp; try with_reducible rfl)
      simp only [Act.put, List.setIfInBounds_toArray, List.set_cons_zero, List.set_cons_succ]
      refine wpAnyH_take (i := 1) (oi := { dst := some 65, op := Op.move (Operand.tmp 9), type := 3, pos := "law.go:62", after := #[], guard := none }) (v := ?_) rfl (by kernel_rfl) (by kernel_rfl) (by kernel_rfl) (fun _ _ _ h => h) (Or.inl ⟨by rfl, ?_⟩) hS0 ?_
      rotate_left
      · (intro w1 hSw; obtain ⟨q1, q2, q3, q4⟩ := hSw; go_simp; try with_reducible rfl)
      simp only [Act.put, List.setIfInBounds_toArray, List.set_cons_zero, List.set_cons_succ]
      refine wpAnyH_take (i := 2) (oi := { dst := some 66, op := Op.move (Operand.tmp 11), type := 22, pos := "law.go:62", after := #[{ on := 29, ground := Ground.gcOnly Departure.lateStores }], guard := none }) (v := ?_) rfl (by kernel_rfl) (by kernel_rfl) (by kernel_rfl) (fun _ _ _ h => h) (Or.inl ⟨by rfl, ?_⟩) hS0 ?_
      rotate_left
      · (intro w1 hSw; obtain ⟨q1, q2, q3, q4⟩ := hSw; go_simp; try with_reducible rfl)
      simp only [Act.put, List.setIfInBounds_toArray, List.set_cons_zero, List.set_cons_succ]
      refine wpAnyH_take (i := 3) (oi := { dst := some 67, op := Op.move (Operand.tmp 9), type := 3, pos := "law.go:62", after := #[{ on := 29, ground := Ground.gcOnly Departure.lateStores }], guard := none }) (v := ?_) rfl (by kernel_rfl) (by kernel_rfl) (by kernel_rfl) (fun _ _ _ h => h) (Or.inl ⟨by rfl, ?_⟩) hS0 ?_
      rotate_left
      · (intro w1 hSw; obtain ⟨q1, q2, q3, q4⟩ := hSw; go_simp; try with_reducible rfl)
      simp only [Act.put, List.setIfInBounds_toArray, List.set_cons_zero, List.set_cons_succ]
      refine wpAnyH_take (i := 4) (oi := { dst := some 68, op := Op.binOp BinOp.add 3 (Operand.tmp 67) (Operand.const (Value.int IntKind.i64 1)) 3, type := 3, pos := "law.go:62", after := #[{ on := 3, ground := Ground.data }, { on := 29, ground := Ground.gcOnly Departure.lateStores }], guard := none }) (v := ?_) rfl (by kernel_rfl) (by kernel_rfl) (by kernel_rfl) (fun _ _ _ h => h) (Or.inl ⟨by rfl, ?_⟩) hS0 ?_
      rotate_left
      · (intro w1 hSw; obtain ⟨q1, q2, q3, q4⟩ := hSw; go_simp; try with_reducible rfl)
      simp only [Act.put, List.setIfInBounds_toArray, List.set_cons_zero, List.set_cons_succ]
      refine wpAnyH_take (i := 5) (oi := { dst := some 69, op := Op.move (Operand.tmp 11), type := 22, pos := "law.go:62", after := #[{ on := 31, ground := Ground.gcOnly Departure.lateStores }], guard := none }) (v := ?_) rfl (by kernel_rfl) (by kernel_rfl) (by kernel_rfl) (fun _ _ _ h => h) (Or.inl ⟨by rfl, ?_⟩) hS0 ?_
      rotate_left
      · (intro w1 hSw; obtain ⟨q1, q2, q3, q4⟩ := hSw; go_simp; try with_reducible rfl)
      simp only [Act.put, List.setIfInBounds_toArray, List.set_cons_zero, List.set_cons_succ]
      refine wpAnyH_take (i := 6) (oi := { dst := some 70, op := Op.move (Operand.tmp 10), type := 3, pos := "law.go:62", after := #[{ on := 31, ground := Ground.gcOnly Departure.lateStores }], guard := none }) (v := ?_) rfl (by kernel_rfl) (by kernel_rfl) (by kernel_rfl) (fun _ _ _ h => h) (Or.inl ⟨by rfl, ?_⟩) hS0 ?_
      rotate_left
      · (intro w1 hSw; obtain ⟨q1, q2, q3, q4⟩ := hSw; go_simp; try with_reducible rfl)
      simp only [Act.put, List.setIfInBounds_toArray, List.set_cons_zero, List.set_cons_succ]
      refine wpAnyH_take (i := 7) (oi := { dst := some 71, op := Op.move (Operand.tmp 11), type := 22, pos := "law.go:62", after := #[{ on := 33, ground := Ground.gcOnly Departure.lateStores }], guard := none }) (v := ?_) rfl (by kernel_rfl) (by kernel_rfl) (by kernel_rfl) (fun _ _ _ h => h) (Or.inl ⟨by rfl, ?_⟩) hS0 ?_
      rotate_left
      · (intro w1 hSw; obtain ⟨q1, q2, q3, q4⟩ := hSw; go_simp; try with_reducible rfl)
      simp only [Act.put, List.setIfInBounds_toArray, List.set_cons_zero, List.set_cons_succ]
      refine wpAnyH_take (i := 8) (oi := { dst := some 72, op := Op.move (Operand.tmp 10), type := 3, pos := "law.go:62", after := #[{ on := 33, ground := Ground.gcOnly Departure.lateStores }], guard := none }) (v := ?_) rfl (by kernel_rfl) (by kernel_rfl) (by kernel_rfl) (fun _ _ _ h => h) (Or.inl ⟨by rfl, ?_⟩) hS0 ?_
      rotate_left
      · (intro w1 hSw; obtain ⟨q1, q2, q3, q4⟩ := hSw; go_simp; try with_reducible rfl)
      simp only [Act.put, List.setIfInBounds_toArray, List.set_cons_zero, List.set_cons_succ]
      refine wpAnyH_take (i := 9) (oi := { dst := some 73, op := Op.binOp BinOp.add 3 (Operand.tmp 72) (Operand.const (Value.int IntKind.i64 1)) 3, type := 3, pos := "law.go:62", after := #[{ on := 8, ground := Ground.data }, { on := 33, ground := Ground.gcOnly Departure.lateStores }], guard := none }) (v := ?_) rfl (by kernel_rfl) (by kernel_rfl) (by kernel_rfl) (fun _ _ _ h => h) (Or.inl ⟨by rfl, ?_⟩) hS0 ?_
      rotate_left
      · (intro w1 hSw; obtain ⟨q1, q2, q3, q4⟩ := hSw; go_simp; try with_reducible rfl)
      simp only [Act.put, List.setIfInBounds_toArray, List.set_cons_zero, List.set_cons_succ]
      refine wpAnyH_take (i := 10) (oi := { dst := some 74, op := Op.move (Operand.tmp 0), type := 22, pos := "law.go:62", after := #[], guard := none }) (v := ?_) rfl (by kernel_rfl) (by kernel_rfl) (by kernel_rfl) (fun _ _ _ h => h) (Or.inl ⟨by rfl, ?_⟩) hS0 ?_
      rotate_left
      · (intro w1 hSw; obtain ⟨q1, q2, q3, q4⟩ := hSw; go_simp; try with_reducible rfl)
      simp only [Act.put, List.setIfInBounds_toArray, List.set_cons_zero, List.set_cons_succ]
      refine wpAnyH_take (i := 11) (oi := { dst := some 75, op := Op.move (Operand.tmp 10), type := 3, pos := "law.go:62", after := #[], guard := none }) (v := ?_) rfl (by kernel_rfl) (by kernel_rfl) (by kernel_rfl) (fun _ _ _ h => h) (Or.inl ⟨by rfl, ?_⟩) hS0 ?_
      rotate_left
      · (intro w1 hSw; obtain ⟨q1, q2, q3, q4⟩ := hSw; go_simp; try with_reducible rfl)
      simp only [Act.put, List.setIfInBounds_toArray, List.set_cons_zero, List.set_cons_succ]
      refine wpAnyH_take (i := 12) (oi := { dst := some 76, op := Op.indexAddr 22 (Operand.tmp 74) (Operand.tmp 75), type := 0, pos := "law.go:62", after := #[{ on := 10, ground := Ground.data }, { on := 11, ground := Ground.data }], guard := none }) (v := ?_) rfl (by kernel_rfl) (by kernel_rfl) (by kernel_rfl) (fun _ _ _ h => h) (Or.inl ⟨by rfl, ?_⟩) hS0 ?_
      rotate_left
      · (intro w1 hSw; obtain ⟨q1, q2, q3, q4⟩ := hSw; go_simp; try with_reducible rfl)
      simp only [Act.put, List.setIfInBounds_toArray, List.set_cons_zero, List.set_cons_succ]
      refine wpAnyH_take (i := 13) (oi := { dst := some 77, op := Op.load 5 (Operand.tmp 76), type := 5, pos := "law.go:62", after := #[{ on := 12, ground := Ground.data }], guard := none }) (v := ?_) rfl (by kernel_rfl) (by kernel_rfl) (by kernel_rfl) (fun _ _ _ h => h) (Or.inl ⟨by rfl, ?_⟩) hS0 ?_
      rotate_left
      · (intro w1 hSw; obtain ⟨q1, q2, q3, q4⟩ := hSw; go_simp; try with_reducible rfl)
      simp only [Act.put, List.setIfInBounds_toArray, List.set_cons_zero, List.set_cons_succ]
      refine wpAnyH_take (i := 14) (oi := { dst := some 78, op := Op.move (Operand.tmp 0), type := 22, pos := "law.go:62", after := #[], guard := none }) (v := ?_) rfl (by kernel_rfl) (by kernel_rfl) (by kernel_rfl) (fun _ _ _ h => h) (Or.inl ⟨by rfl, ?_⟩) hS0 ?_
      rotate_left
      · (intro w1 hSw; obtain ⟨q1, q2, q3, q4⟩ := hSw; go_simp; try with_reducible rfl)
      simp only [Act.put, List.setIfInBounds_toArray, List.set_cons_zero, List.set_cons_succ]
      refine wpAnyH_take (i := 15) (oi := { dst := some 79, op := Op.move (Operand.tmp 10), type := 3, pos := "law.go:62", after := #[], guard := none }) (v := ?_) rfl (by kernel_rfl) (by kernel_rfl) (by kernel_rfl) (fun _ _ _ h => h) (Or.inl ⟨by rfl, ?_⟩) hS0 ?_
      rotate_left
      · (intro w1 hSw; obtain ⟨q1, q2, q3, q4⟩ := hSw; go_simp; try with_reducible rfl)
      simp only [Act.put, List.setIfInBounds_toArray, List.set_cons_zero, List.set_cons_succ]
      refine wpAnyH_take (i := 16) (oi := { dst := some 80, op := Op.binOp BinOp.add 3 (Operand.tmp 79) (Operand.const (Value.int IntKind.i64 1)) 3, type := 3, pos := "law.go:62", after := #[{ on := 15, ground := Ground.data }], guard := none }) (v := ?_) rfl (by kernel_rfl) (by kernel_rfl) (by kernel_rfl) (fun _ _ _ h => h) (Or.inl ⟨by rfl, ?_⟩) hS0 ?_
      rotate_left
      · (intro w1 hSw; obtain ⟨q1, q2, q3, q4⟩ := hSw; go_simp; try with_reducible rfl)
      simp only [Act.put, List.setIfInBounds_toArray, List.set_cons_zero, List.set_cons_succ]
      refine wpAnyH_take (i := 17) (oi := { dst := some 81, op := Op.indexAddr 22 (Operand.tmp 78) (Operand.tmp 80), type := 0, pos := "law.go:62", after := #[{ on := 14, ground := Ground.data }, { on := 16, ground := Ground.data }], guard := none }) (v := ?_) rfl (by kernel_rfl) (by kernel_rfl) (by kernel_rfl) (fun _ _ _ h => h) (Or.inl ⟨by rfl, ?_⟩) hS0 ?_
      rotate_left
      · (intro w1 hSw; obtain ⟨q1, q2, q3, q4⟩ := hSw; go_simp; try with_reducible rfl)
      simp only [Act.put, List.setIfInBounds_toArray, List.set_cons_zero, List.set_cons_succ]
      refine wpAnyH_take (i := 18) (oi := { dst := some 82, op := Op.load 5 (Operand.tmp 81), type := 5, pos := "law.go:62", after := #[{ on := 17, ground := Ground.data }], guard := none }) (v := ?_) rfl (by kernel_rfl) (by kernel_rfl) (by kernel_rfl) (fun _ _ _ h => h) (Or.inl ⟨by rfl, ?_⟩) hS0 ?_
      rotate_left
      · (intro w1 hSw; obtain ⟨q1, q2, q3, q4⟩ := hSw; go_simp; try with_reducible rfl)
      simp only [Act.put, List.setIfInBounds_toArray, List.set_cons_zero, List.set_cons_succ]
      refine wpAnyH_take (i := 19) (oi := { dst := some 83, op := Op.move (Operand.tmp 0), type := 22, pos := "law.go:62", after := #[], guard := none }) (v := ?_) rfl (by kernel_rfl) (by kernel_rfl) (by kernel_rfl) (fun _ _ _ h => h) (Or.inl ⟨by rfl, ?_⟩) hS0 ?_
      rotate_left
      · (intro w1 hSw; obtain ⟨q1, q2, q3, q4⟩ := hSw; go_simp; try with_reducible rfl)
      simp only [Act.put, List.setIfInBounds_toArray, List.set_cons_zero, List.set_cons_succ]
      refine wpAnyH_take (i := 20) (oi := { dst := some 84, op := Op.move (Operand.tmp 9), type := 3, pos := "law.go:62", after := #[], guard := none }) (v := ?_) rfl (by kernel_rfl) (by kernel_rfl) (by kernel_rfl) (fun _ _ _ h => h) (Or.inl ⟨by rfl, ?_⟩) hS0 ?_
      rotate_left
      · (intro w1 hSw; obtain ⟨q1, q2, q3, q4⟩ := hSw; go_simp; try with_reducible rfl)
      simp only [Act.put, List.setIfInBounds_toArray, List.set_cons_zero, List.set_cons_succ]
      refine wpAnyH_take (i := 21) (oi := { dst := some 85, op := Op.indexAddr 22 (Operand.tmp 83) (Operand.tmp 84), type := 0, pos := "law.go:62", after := #[{ on := 19, ground := Ground.data }, { on := 20, ground := Ground.data }], guard := none }) (v := ?_) rfl (by kernel_rfl) (by kernel_rfl) (by kernel_rfl) (fun _ _ _ h => h) (Or.inl ⟨by rfl, ?_⟩) hS0 ?_
      rotate_left
      · (intro w1 hSw; obtain ⟨q1, q2, q3, q4⟩ := hSw; go_simp; try with_reducible rfl)
      simp only [Act.put, List.setIfInBounds_toArray, List.set_cons_zero, List.set_cons_succ]
      refine wpAnyH_take (i := 22) (oi := { dst := some 86, op := Op.load 5 (Operand.tmp 85), type := 5, pos := "law.go:62", after := #[{ on := 21, ground := Ground.data }], guard := none }) (v := ?_) rfl (by kernel_rfl) (by kernel_rfl) (by kernel_rfl) (fun _ _ _ h => h) (Or.inl ⟨by rfl, ?_⟩) hS0 ?_
      rotate_left
      · (intro w1 hSw; obtain ⟨q1, q2, q3, q4⟩ := hSw; go_simp; try with_reducible rfl)
      simp only [Act.put, List.setIfInBounds_toArray, List.set_cons_zero, List.set_cons_succ]
      refine wpAnyH_take (i := 23) (oi := { dst := some 87, op := Op.move (Operand.tmp 0), type := 22, pos := "law.go:62", after := #[], guard := none }) (v := ?_) rfl (by kernel_rfl) (by kernel_rfl) (by kernel_rfl) (fun _ _ _ h => h) (Or.inl ⟨by rfl, ?_⟩) hS0 ?_
      rotate_left
      · (intro w1 hSw; obtain ⟨q1, q2, q3, q4⟩ := hSw; go_simp; try with_reducible rfl)
      simp only [Act.put, List.setIfInBounds_toArray, List.set_cons_zero, List.set_cons_succ]
      refine wpAnyH_take (i := 24) (oi := { dst := some 88, op := Op.move (Operand.tmp 9), type := 3, pos := "law.go:62", after := #[], guard := none }) (v := ?_) rfl (by kernel_rfl) (by kernel_rfl) (by kernel_rfl) (fun _ _ _ h => h) (Or.inl ⟨by rfl, ?_⟩) hS0 ?_
      rotate_left
      · (intro w1 hSw; obtain ⟨q1, q2, q3, q4⟩ := hSw; go_simp; try with_reducible rfl)
      simp only [Act.put, List.setIfInBounds_toArray, List.set_cons_zero, List.set_cons_succ]
      refine wpAnyH_take (i := 25) (oi := { dst := some 89, op := Op.binOp BinOp.add 3 (Operand.tmp 88) (Operand.const (Value.int IntKind.i64 1)) 3, type := 3, pos := "law.go:62", after := #[{ on := 24, ground := Ground.data }], guard := none }) (v := ?_) rfl (by kernel_rfl) (by kernel_rfl) (by kernel_rfl) (fun _ _ _ h => h) (Or.inl ⟨by rfl, ?_⟩) hS0 ?_
      rotate_left
      · (intro w1 hSw; obtain ⟨q1, q2, q3, q4⟩ := hSw; go_simp; try with_reducible rfl)
      simp only [Act.put, List.setIfInBounds_toArray, List.set_cons_zero, List.set_cons_succ]
      refine wpAnyH_take (i := 26) (oi := { dst := some 90, op := Op.indexAddr 22 (Operand.tmp 87) (Operand.tmp 89), type := 0, pos := "law.go:62", after := #[{ on := 23, ground := Ground.data }, { on := 25, ground := Ground.data }], guard := none }) (v := ?_) rfl (by kernel_rfl) (by kernel_rfl) (by kernel_rfl) (fun _ _ _ h => h) (Or.inl ⟨by rfl, ?_⟩) hS0 ?_
      rotate_left
      · (intro w1 hSw; obtain ⟨q1, q2, q3, q4⟩ := hSw; go_simp; try with_reducible rfl)
      simp only [Act.put, List.setIfInBounds_toArray, List.set_cons_zero, List.set_cons_succ]
      refine wpAnyH_take (i := 27) (oi := { dst := some 91, op := Op.load 5 (Operand.tmp 90), type := 5, pos := "law.go:62", after := #[{ on := 26, ground := Ground.data }], guard := none }) (v := ?_) rfl (by kernel_rfl) (by kernel_rfl) (by kernel_rfl) (fun _ _ _ h => h) (Or.inl ⟨by rfl, ?_⟩) hS0 ?_
      rotate_left
      · (intro w1 hSw; obtain ⟨q1, q2, q3, q4⟩ := hSw; go_simp; try with_reducible rfl)
      simp only [Act.put, List.setIfInBounds_toArray, List.set_cons_zero, List.set_cons_succ]
      refine wpAnyH_take (i := 28) (oi := { dst := some 92, op := Op.indexAddr 22 (Operand.tmp 64) (Operand.tmp 65), type := 0, pos := "law.go:62", after := #[{ on := 0, ground := Ground.data }, { on := 1, ground := Ground.data }, { on := 0, ground := Ground.phase }, { on := 1, ground := Ground.phase }, { on := 2, ground := Ground.textOnly Departure.lateStores }, { on := 3, ground := Ground.textOnly Departure.lateStores }, { on := 4, ground := Ground.textOnly Departure.lateStores }, { on := 5, ground := Ground.textOnly Departure.lateStores }, { on := 6, ground := Ground.textOnly Departure.lateStores }, { on := 7, ground := Ground.textOnly Departure.lateStores }, { on := 8, ground := Ground.textOnly Departure.lateStores }, { on := 9, ground := Ground.textOnly Departure.lateStores }, { on := 10, ground := Ground.phase }, { on := 11, ground := Ground.phase }, { on := 12, ground := Ground.phase }, { on := 13, ground := Ground.phase }, { on := 14, ground := Ground.textOnly Departure.lateStores }, { on := 15, ground := Ground.textOnly Departure.lateStores }, { on := 16, ground := Ground.textOnly Departure.lateStores }, { on := 17, ground := Ground.textOnly Departure.lateStoresUnsure }, { on := 18, ground := Ground.phase }, { on := 19, ground := Ground.textOnly Departure.lateStores }, { on := 20, ground := Ground.textOnly Departure.lateStores }, { on := 21, ground := Ground.textOnly Departure.lateStoresUnsure }, { on := 22, ground := Ground.phase }, { on := 23, ground := Ground.textOnly Departure.lateStores }, { on := 24, ground := Ground.textOnly Departure.lateStores }, { on := 25, ground := Ground.textOnly Departure.lateStores }, { on := 26, ground := Ground.textOnly Departure.lateStoresUnsure }, { on := 27, ground := Ground.phase }], guard := none }) (v := ?_) rfl (by kernel_rfl) (by kernel_rfl) (by kernel_rfl) (fun _ _ _ h => h) (Or.inl ⟨by rfl, ?_⟩) hS0 ?_
      rotate_left
      · (intro w1 hSw; obtain ⟨q1, q2, q3, q4⟩ := hSw; go_simp; try with_reducible rfl)
      simp only [Act.put, List.setIfInBounds_toArray, List.set_cons_zero, List.set_cons_succ]
      refine wpAnyH_ready (rs := [29]) (by kernel_rfl) (by simp) ?_
      refine AllReadyH.cons (o := { dst := none, op := Op.store 5 (Operand.tmp 92) (Operand.tmp 77), type := 0, pos := "law.go:62", after := #[{ on := 28, ground := Ground.data }, { on := 13, ground := Ground.data }, { on := 0, ground := Ground.phase }, { on := 1, ground := Ground.phase }, { on := 2, ground := Ground.textOnly Departure.lateStores }, { on := 3, ground := Ground.textOnly Departure.lateStores }, { on := 4, ground := Ground.textOnly Departure.lateStores }, { on := 5, ground := Ground.textOnly Departure.lateStores }, { on := 6, ground := Ground.textOnly Departure.lateStores }, { on := 7, ground := Ground.textOnly Departure.lateStores }, { on := 8, ground := Ground.textOnly Departure.lateStores }, { on := 9, ground := Ground.textOnly Departure.lateStores }, { on := 10, ground := Ground.phase }, { on := 11, ground := Ground.phase }, { on := 12, ground := Ground.phase }, { on := 13, ground := Ground.phase }, { on := 14, ground := Ground.textOnly Departure.lateStores }, { on := 15, ground := Ground.textOnly Departure.lateStores }, { on := 16, ground := Ground.textOnly Departure.lateStores }, { on := 17, ground := Ground.textOnly Departure.lateStoresUnsure }, { on := 18, ground := Ground.phase }, { on := 19, ground := Ground.textOnly Departure.lateStores }, { on := 20, ground := Ground.textOnly Departure.lateStores }, { on := 21, ground := Ground.textOnly Departure.lateStoresUnsure }, { on := 22, ground := Ground.phase }, { on := 23, ground := Ground.textOnly Departure.lateStores }, { on := 24, ground := Ground.textOnly Departure.lateStores }, { on := 25, ground := Ground.textOnly Departure.lateStores }, { on := 26, ground := Ground.textOnly Departure.lateStoresUnsure }, { on := 27, ground := Ground.phase }], guard := none }) rfl (fun K hK => ?_) AllReadyH.nil
      rw [if_pos (by rfl)]
      refine st_u8 _ _ _ _ _ _ K _ _ d (x) y0 rfl rfl (own_cell OD0.out (x) (by omega)) (OD0.out.frozenAt (x)) ?_
      have hst1 := OD0.out.stored (x) (.int .u8 (y0 : Int))
      rw [nus_set] at hst1
      have hS1 := held_set _ _ _ _ _ _ _ _ _ d (x) (y0 : Int) hbd hS0
      have BD1 := Lib.hid (BD0.out.grown hst1.2 BD0.out.size (fun k e => by cases e; exact hd4))
      have OD1 := Lib.hid hst1.1
      clear hst1
      refine hK.out _ _ hS1 (fun _ => ?_)
      clear hK K OD0 BD0 hS0
      generalize World.setCell _ _ _ = wd1 at OD1 BD1 hS1 ⊢
      refine wpAnyH_take (i := 30) (oi := { dst := some 93, op := Op.indexAddr 22 (Operand.tmp 66) (Operand.tmp 68), type := 0, pos := "law.go:62", after := #[{ on := 2, ground := Ground.data }, { on := 4, ground := Ground.data }, { on := 0, ground := Ground.phase }, { on := 1, ground := Ground.phase }, { on := 2, ground := Ground.phase }, { on := 3, ground := Ground.phase }, { on := 4, ground := Ground.phase }, { on := 5, ground := Ground.textOnly Departure.lateStores }, { on := 6, ground := Ground.textOnly Departure.lateStores }, { on := 7, ground := Ground.textOnly Departure.lateStores }, { on := 8, ground := Ground.textOnly Departure.lateStores }, { on := 9, ground := Ground.textOnly Departure.lateStores }, { on := 10, ground := Ground.phase }, { on := 11, ground := Ground.phase }, { on := 12, ground := Ground.phase }, { on := 13, ground := Ground.phase }, { on := 14, ground := Ground.phase }, { on := 15, ground := Ground.phase }, { on := 16, ground := Ground.phase }, { on := 17, ground := Ground.phase }, { on := 18, ground := Ground.phase }, { on := 19, ground := Ground.textOnly Departure.lateStores }, { on := 20, ground := Ground.textOnly Departure.lateStores }, { on := 21, ground := Ground.textOnly Departure.lateStoresUnsure }, { on := 22, ground := Ground.phase }, { on := 23, ground := Ground.textOnly Departure.lateStores }, { on := 24, ground := Ground.textOnly Departure.lateStores }, { on := 25, ground := Ground.textOnly Departure.lateStores }, { on := 26, ground := Ground.textOnly Departure.lateStoresUnsure }, { on := 27, ground := Ground.phase }, { on := 28, ground := Ground.phase }, { on := 29, ground := Ground.phase }], guard := none }) (v := ?_) rfl (by kernel_rfl) (by kernel_rfl) (by kernel_rfl) (fun _ _ _ h => h) (Or.inl ⟨by rfl, ?_⟩) hS1 ?_
      rotate_left
      · (intro w1 hSw; obtain ⟨q1, q2, q3, q4⟩ := hSw; go_simp; try with_reducible rfl)
      simp only [Act.put, List.setIfInBounds_toArray, List.set_cons_zero, List.set_cons_succ]
      refine wpAnyH_ready (rs := [31]) (by kernel_rfl) (by simp) ?_
      refine AllReadyH.cons (o := { dst := none, op := Op.store 5 (Operand.tmp 93) (Operand.tmp 82), type := 0, pos := "law.go:62", after := #[{ on := 30, ground := Ground.data }, { on := 18, ground := Ground.data }, { on := 29, ground := Ground.chain }, { on := 0, ground := Ground.phase }, { on := 1, ground := Ground.phase }, { on := 2, ground := Ground.phase }, { on := 3, ground := Ground.phase }, { on := 4, ground := Ground.phase }, { on := 5, ground := Ground.textOnly Departure.lateStores }, { on := 6, ground := Ground.textOnly Departure.lateStores }, { on := 7, ground := Ground.textOnly Departure.lateStores }, { on := 8, ground := Ground.textOnly Departure.lateStores }, { on := 9, ground := Ground.textOnly Departure.lateStores }, { on := 10, ground := Ground.phase }, { on := 11, ground := Ground.phase }, { on := 12, ground := Ground.phase }, { on := 13, ground := Ground.phase }, { on := 14, ground := Ground.phase }, { on := 15, ground := Ground.phase }, { on := 16, ground := Ground.phase }, { on := 17, ground := Ground.phase }, { on := 18, ground := Ground.phase }, { on := 19, ground := Ground.textOnly Departure.lateStores }, { on := 20, ground := Ground.textOnly Departure.lateStores }, { on := 21, ground := Ground.textOnly Departure.lateStoresUnsure }, { on := 22, ground := Ground.phase }, { on := 23, ground := Ground.textOnly Departure.lateStores }, { on := 24, ground := Ground.textOnly Departure.lateStores }, { on := 25, ground := Ground.textOnly Departure.lateStores }, { on := 26, ground := Ground.textOnly Departure.lateStoresUnsure }, { on := 27, ground := Ground.phase }, { on := 28, ground := Ground.phase }, { on := 29, ground := Ground.phase }], guard := none }) rfl (fun K hK => ?_) AllReadyH.nil
      rw [if_pos (by rfl)]
      refine st_u8 _ _ _ _ _ _ K _ _ d (x + 1) y1 rfl rfl (own_cell OD1.out (x + 1) (by omega)) (OD1.out.frozenAt (x + 1)) ?_
      have hst2 := OD1.out.stored (x + 1) (.int .u8 (y1 : Int))
      rw [nus_set] at hst2
      have hS2 := held_set _ _ _ _ _ _ _ _ _ d (x + 1) (y1 : Int) hbd hS1
      have BD2 := Lib.hid (BD1.out.grown hst2.2 BD1.out.size (fun k e => by cases e; exact hd4))
      have OD2 := Lib.hid hst2.1
      clear hst2
      refine hK.out _ _ hS2 (fun _ => ?_)
      clear hK K OD1 BD1 hS1
      generalize World.setCell _ _ _ = wd2 at OD2 BD2 hS2 ⊢
      refine wpAnyH_take (i := 32) (oi := { dst := some 94, op := Op.indexAddr 22 (Operand.tmp 69) (Operand.tmp 70), type := 0, pos := "law.go:62", after := #[{ on := 5, ground := Ground.data }, { on := 6, ground := Ground.data }, { on := 0, ground := Ground.phase }, { on := 1, ground := Ground.phase }, { on := 2, ground := Ground.phase }, { on := 3, ground := Ground.phase }, { on := 4, ground := Ground.phase }, { on := 5, ground := Ground.phase }, { on := 6, ground := Ground.phase }, { on := 7, ground := Ground.textOnly Departure.lateStores }, { on := 8, ground := Ground.textOnly Departure.lateStores }, { on := 9, ground := Ground.textOnly Departure.lateStores }, { on := 10, ground := Ground.phase }, { on := 11, ground := Ground.phase }, { on := 12, ground := Ground.phase }, { on := 13, ground := Ground.phase }, { on := 14, ground := Ground.phase }, { on := 15, ground := Ground.phase }, { on := 16, ground := Ground.phase }, { on := 17, ground := Ground.phase }, { on := 18, ground := Ground.phase }, { on := 19, ground := Ground.phase }, { on := 20, ground := Ground.phase }, { on := 21, ground := Ground.phase }, { on := 22, ground := Ground.phase }, { on := 23, ground := Ground.textOnly Departure.lateStores }, { on := 24, ground := Ground.textOnly Departure.lateStores }, { on := 25, ground := Ground.textOnly Departure.lateStores }, { on := 26, ground := Ground.textOnly Departure.lateStoresUnsure }, { on := 27, ground := Ground.phase }, { on := 28, ground := Ground.phase }, { on := 29, ground := Ground.phase }, { on := 30, ground := Ground.phase }, { on := 31, ground := Ground.phase }], guard := none }) (v := ?_) rfl (by kernel_rfl) (by kernel_rfl) (by kernel_rfl) (fun _ _ _ h => h) (Or.inl ⟨by rfl, ?_⟩) hS2 ?_
      rotate_left
      · (intro w1 hSw; obtain ⟨q1, q2, q3, q4⟩ := hSw; go_simp; try with_reducible rfl)
      simp only [Act.put, List.setIfInBounds_toArray, List.set_cons_zero, List.set_cons_succ]
      refine wpAnyH_ready (rs := [33]) (by kernel_rfl) (by simp) ?_
      refine AllReadyH.cons (o := { dst := none, op := Op.store 5 (Operand.tmp 94) (Operand.tmp 86), type := 0, pos := "law.go:62", after := #[{ on := 32, ground := Ground.data }, { on := 22, ground := Ground.data }, { on := 31, ground := Ground.chain }, { on := 0, ground := Ground.phase }, { on := 1, ground := Ground.phase }, { on := 2, ground := Ground.phase }, { on := 3, ground := Ground.phase }, { on := 4, ground := Ground.phase }, { on := 5, ground := Ground.phase }, { on := 6, ground := Ground.phase }, { on := 7, ground := Ground.textOnly Departure.lateStores }, { on := 8, ground := Ground.textOnly Departure.lateStores }, { on := 9, ground := Ground.textOnly Departure.lateStores }, { on := 10, ground := Ground.phase }, { on := 11, ground := Ground.phase }, { on := 12, ground := Ground.phase }, { on := 13, ground := Ground.phase }, { on := 14, ground := Ground.phase }, { on := 15, ground := Ground.phase }, { on := 16, ground := Ground.phase }, { on := 17, ground := Ground.phase }, { on := 18, ground := Ground.phase }, { on := 19, ground := Ground.phase }, { on := 20, ground := Ground.phase }, { on := 21, ground := Ground.phase }, { on := 22, ground := Ground.phase }, { on := 23, ground := Ground.textOnly Departure.lateStores }, { on := 24, ground := Ground.textOnly Departure.lateStores }, { on := 25, ground := Ground.textOnly Departure.lateStores }, { on := 26, ground := Ground.textOnly Departure.lateStoresUnsure }, { on := 27, ground := Ground.phase }, { on := 28, ground := Ground.phase }, { on := 29, ground := Ground.phase }, { on := 30, ground := Ground.phase }, { on := 31, ground := Ground.phase }], guard := none }) rfl (fun K hK => ?_) AllReadyH.nil
      rw [if_pos (by rfl)]
      refine st_u8 _ _ _ _ _ _ K _ _ d (y) x0 rfl rfl (own_cell OD2.out (y) (by omega)) (OD2.out.frozenAt (y)) ?_
      have hst3 := OD2.out.stored (y) (.int .u8 (x0 : Int))
      rw [nus_set] at hst3
      have hS3 := held_set _ _ _ _ _ _ _ _ _ d (y) (x0 : Int) hbd hS2
      have BD3 := Lib.hid (BD2.out.grown hst3.2 BD2.out.size (fun k e => by cases e; exact hd4))
      have OD3 := Lib.hid hst3.1
      clear hst3
      refine hK.out _ _ hS3 (fun _ => ?_)
      clear hK K OD2 BD2 hS2
      generalize World.setCell _ _ _ = wd3 at OD3 BD3 hS3 ⊢
      refine wpAnyH_take (i := 34) (oi := { dst := some 95, op := Op.indexAddr 22 (Operand.tmp 71) (Operand.tmp 73), type := 0, pos := "law.go:62", after := #[{ on := 7, ground := Ground.data }, { on := 9, ground := Ground.data }, { on := 0, ground := Ground.phase }, { on := 1, ground := Ground.phase }, { on := 2, ground := Ground.phase }, { on := 3, ground := Ground.phase }, { on := 4, ground := Ground.phase }, { on := 5, ground := Ground.phase }, { on := 6, ground := Ground.phase }, { on := 7, ground := Ground.phase }, { on := 8, ground := Ground.phase }, { on := 9, ground := Ground.phase }, { on := 10, ground := Ground.phase }, { on := 11, ground := Ground.phase }, { on := 12, ground := Ground.phase }, { on := 13, ground := Ground.phase }, { on := 14, ground := Ground.phase }, { on := 15, ground := Ground.phase }, { on := 16, ground := Ground.phase }, { on := 17, ground := Ground.phase }, { on := 18, ground := Ground.phase }, { on := 19, ground := Ground.phase }, { on := 20, ground := Ground.phase }, { on := 21, ground := Ground.phase }, { on := 22, ground := Ground.phase }, { on := 23, ground := Ground.phase }, { on := 24, ground := Ground.phase }, { on := 25, ground := Ground.phase }, { on := 26, ground := Ground.phase }, { on := 27, ground := Ground.phase }, { on := 28, ground := Ground.phase }, { on := 29, ground := Ground.phase }, { on := 30, ground := Ground.phase }, { on := 31, ground := Ground.phase }, { on := 32, ground := Ground.phase }, { on := 33, ground := Ground.phase }], guard := none }) (v := ?_) rfl (by kernel_rfl) (by kernel_rfl) (by kernel_rfl) (fun _ _ _ h => h) (Or.inl ⟨by rfl, ?_⟩) hS3 ?_
      rotate_left
      · (intro w1 hSw; obtain ⟨q1, q2, q3, q4⟩ := hSw; go_simp; try with_reducible rfl)
      simp only [Act.put, List.setIfInBounds_toArray, List.set_cons_zero, List.set_cons_succ]
      refine wpAnyH_ready (rs := [35]) (by kernel_rfl) (by simp) ?_
      refine AllReadyH.cons (o := { dst := none, op := Op.store 5 (Operand.tmp 95) (Operand.tmp 91), type := 0, pos := "law.go:62", after := #[{ on := 34, ground := Ground.data }, { on := 27, ground := Ground.data }, { on := 33, ground := Ground.chain }, { on := 0, ground := Ground.phase }, { on := 1, ground := Ground.phase }, { on := 2, ground := Ground.phase }, { on := 3, ground := Ground.phase }, { on := 4, ground := Ground.phase }, { on := 5, ground := Ground.phase }, { on := 6, ground := Ground.phase }, { on := 7, ground := Ground.phase }, { on := 8, ground := Ground.phase }, { on := 9, ground := Ground.phase }, { on := 10, ground := Ground.phase }, { on := 11, ground := Ground.phase }, { on := 12, ground := Ground.phase }, { on := 13, ground := Ground.phase }, { on := 14, ground := Ground.phase }, { on := 15, ground := Ground.phase }, { on := 16, ground := Ground.phase }, { on := 17, ground := Ground.phase }, { on := 18, ground := Ground.phase }, { on := 19, ground := Ground.phase }, { on := 20, ground := Ground.phase }, { on := 21, ground := Ground.phase }, { on := 22, ground := Ground.phase }, { on := 23, ground := Ground.phase }, { on := 24, ground := Ground.phase }, { on := 25, ground := Ground.phase }, { on := 26, ground := Ground.phase }, { on := 27, ground := Ground.phase }, { on := 28, ground := Ground.phase }, { on := 29, ground := Ground.phase }, { on := 30, ground := Ground.phase }, { on := 31, ground := Ground.phase }, { on := 32, ground := Ground.phase }, { on := 33, ground := Ground.phase }], guard := none }) rfl (fun K hK => ?_) AllReadyH.nil
      rw [if_pos (by rfl)]
      refine st_u8 _ _ _ _ _ _ K _ _ d (y + 1) x1 rfl rfl (own_cell OD3.out (y + 1) (by omega)) (OD3.out.frozenAt (y + 1)) ?_
      have hst4 := OD3.out.stored (y + 1) (.int .u8 (x1 : Int))
      rw [nus_set] at hst4
      have hS4 := held_set _ _ _ _ _ _ _ _ _ d (y + 1) (x1 : Int) hbd hS3
      have BD4 := Lib.hid (BD3.out.grown hst4.2 BD3.out.size (fun k e => by cases e; exact hd4))
      have OD4 := Lib.hid hst4.1
      clear hst4
      refine hK.out _ _ hS4 (fun _ => ?_)
      clear hK K OD3 BD3 hS3
      generalize World.setCell _ _ _ = wd4 at OD4 BD4 hS4 ⊢
      refine wpAnyH_done (by kernel_rfl) ?_ _
      rw [hswp.out] at OD4
      go_wp2_with fail
      refine (check_any _ (swp E x y) _ (Rd.own OD4.out) (by rw [swp_length, HE.out]; omega) (swp_lt E x y BE.out)).mono ?_
      rintro e w9 ⟨rfl, hb9⟩
      rw [hsw.out, ← HSE.out]
      have B9 := Lib.hid (BD4.out.trans (hb9.mono BD4.out.size))
      clear hb9 BD4 OD4 hS4
      go_wp2_with fail
      refine (awake_any _).mono ?_
      rintro e w10 ⟨rfl, hb10⟩
      go_wp2
      go_ret
      exact ⟨rfl, B9.out.trans (hb10.mono B9.out.size)⟩

theorem zero_walk (a0 : Option Addr) (l0 c0 : Nat) (B : List Nat) (i0 j0 : Int) (w : World) (hb : Rd w (.slice a0 l0 c0) (nus .u8 B)) (hnb : a0 = none → c0 = 0) (bB : ∀ c ∈ B, c < 256) :
    Calls Try.prog 5 #[.slice a0 l0 c0, .int .i64 i0, .int .i64 j0] w fun e w' => e = .returned (.bool true) ∧ Below w.heap.size w w' := by
  have e0 := rd_len hb
  by_cases h : 1000 < B.length
  · exact zero_no _ B i0 j0 w hb h
  · exact zero_yes a0 l0 c0 B i0 j0 w hb hnb e0 (by omega) bB
end Go.Proofs.Ytjcmidgeddhfoaa
