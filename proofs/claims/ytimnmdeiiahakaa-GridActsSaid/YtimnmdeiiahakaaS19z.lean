/- GridActs' walk. -/
import Derived.Test.YtimnmdeiiahakaaS19z0
import Derived.Deep.CutBlock
import Derived.Deep.DeepCutAuto
import Derived.LoopTactic
import Derived.Handy
namespace Go.Proofs.Ytimnmdeiiahakaa
open Go.RowKit Go.Lib

theorem eq24 (p : Addr) (W : World) : (binOp .eql 24 (.pointer (some p)) (.pointer none)).run Try.prog W = .ok (.bool false) W := by kernel_rfl
theorem i32 : (Try.prog.info? 32).map (·.size) = some 4 := by kernel_rfl
/-- An act in a row of them is loaded. -/
theorem load_act {w : World} {a : Option Addr} {len cap : Nat} {L : List Ac} {j : Nat} {x : Ac} (h : RdA w (.slice a len cap) L) (hx : L[j]? = some x) :
    ∃ b off, a = some ⟨b, off, none⟩ ∧ (loadVar 32 ⟨b, off + j * 4, none⟩).run Try.prog w = .ok (.agg #[.int .i64 x.kd, .int .i64 x.ps, .int .i64 x.pi, .int .i64 x.v]) w := by
  obtain ⟨a', cap', e, h2⟩ := h
  simp only [Value.slice.injEq] at e
  obtain ⟨rfl, -, -⟩ := e
  rcases h2 with rfl | ⟨b, off, rfl, -, hc⟩
  · simp at hx
  · exact ⟨b, off, rfl, run_loadVar_mid (P := Try.prog) w b (off + j * 4) 32 (acell x) _ (fun i u hi => by
      rw [hc j i x hx (List.getElem?_eq_some_iff.1 hi).1]; exact hi) Try.underlying32 rfl i32⟩
/-- The state ahead of an act. -/
structure AS (B st sz bw : Nat) (c : Nat → Option Int) (vw : Value) (w W : World) : Prop where
  G : GdI B st sz c W
  V : W.ownsRow bw 35 3 vw (itF c 0 (st * sz)).length (icells sz (itF c 0 (st * sz)))
  K : Below w.heap.size w W
  F : ∀ k u, c k = some u → W64 u
  b : bw ≤ W.heap.size
  h1 : w.heap.size ≤ B
  h2 : B + 2 + st ≤ bw
theorem AS.below {B st sz bw : Nat} {c : Nat → Option Int} {vw : Value} {w W W' : World} (h : AS B st sz bw c vw w W) (hb : Below W.heap.size W W') : AS B st sz bw c vw w W' :=
  ⟨h.G.below hb, row_under2 h.V hb, h.K.trans (hb.mono h.K.size), h.F, Nat.le_trans h.b hb.size, h.h1, h.h2⟩
/-- An item of the grid's. -/
theorem item_in {c : Nat → Option Int} {n q : Nat} {x : Nat × Int} (h : (itF c 0 n)[q]? = some x) : x.1 < n ∧ c x.1 = some x.2 := by
  have := (itF_mem c 0 n x).mp (List.mem_of_getElem? h)
  exact ⟨by omega, this.2.2⟩
theorem w64_bounds {n : Int} (h : W64 n) : -9223372036854775808 ≤ n ∧ n ≤ 9223372036854775807 := bounds_i64 h
set_option maxRecDepth 100000 in
set_option maxHeartbeats 4000000 in
theorem acts_walk (st0 sz0 : Int) (A0 : List Ac) (va : Value) (w : World) (hv : RdA w va A0) (hF : ∀ x ∈ A0, x.Fit) (_hM : A0.length ≤ maxLen) :
    Calls Try.prog 3 #[.int .i64 st0, .int .i64 sz0, va] w fun e w' => e = .returned (.bool true) ∧ Below w.heap.size w w' := by
  by_cases hno : A0.length > 60 ∨ ¬ (1 ≤ st0 ∧ st0 ≤ 4 ∧ 1 ≤ sz0 ∧ sz0 ≤ 1024)
  · exact acts_early st0 sz0 A0 va w hv hF hno
  have h0 : ¬ A0.length > 60 := fun h => hno (.inl h)
  have hr := Classical.not_not.1 (fun h => hno (.inr h))
  clear hno
  have K := Lib.hid (Below.refl w.heap.size w)
  have AW := Lib.hid awake_any
  have HV := Lib.hid hv
  have HF := Lib.hid hF
  obtain ⟨a0, cap0, rfl, -⟩ := hv
  obtain ⟨ln, hln⟩ : ∃ n, n = A0.length := ⟨_, rfl⟩
  rw [← hln] at HV h0 ⊢
  have HLN := Lib.hid hln
  clear hln hF
  have e0a : decide ((ln : Int) > 60) = false := decide_eq_false (by omega)
  have e0d : decide (ln > 60) = false := decide_eq_false (by omega)
  have e0e : decide ((ln : Int) > 60) = false := decide_eq_false (by omega)
  have e0f : decide (60 < ln) = false := decide_eq_false (by omega)
  have hln : ln ≤ 60 := by omega
  clear h0
  obtain ⟨r1, r2, r3, r4⟩ := hr
  obtain ⟨st, rfl⟩ : ∃ s : Nat, st0 = (s : Int) := ⟨st0.toNat, by omega⟩
  obtain ⟨sz, rfl⟩ : ∃ s : Nat, sz0 = (s : Int) := ⟨sz0.toNat, by omega⟩
  have f0 : decide ((st : Int) < 1) = false := decide_eq_false (by omega)
  have f1 : decide ((st : Int) > 4) = false := decide_eq_false (by omega)
  have f2 : decide ((sz : Int) < 1) = false := decide_eq_false (by omega)
  have f3 : decide ((sz : Int) > 1024) = false := decide_eq_false (by omega)
  have g0 : decide (st < 1) = false := decide_eq_false (by omega)
  have g1 : decide (st > 4) = false := decide_eq_false (by omega)
  have g2 : decide (sz < 1) = false := decide_eq_false (by omega)
  have g3 : decide (sz > 1024) = false := decide_eq_false (by omega)
  have g4 : decide (4 < st) = false := decide_eq_false (by omega)
  have g5 : decide (1024 < sz) = false := decide_eq_false (by omega)
  have hst : 1 ≤ st ∧ st ≤ 4 := by omega
  have hsz : 1 ≤ sz ∧ sz ≤ 1024 := by omega
  clear r1 r2 r3 r4
  have CN := Lib.hid (fun W => newI_yes st sz (by omega) (by omega) (by omega) (by omega) W)
  have hq := eq24
  go_enter Try.func3, Try.ntmps3
  go_wp2_with fail
  obtain ⟨B, hB⟩ : ∃ B, B = w.heap.size := ⟨_, rfl⟩
  have hB1 := K.out.size
  refine (CN.out w).mono ?_
  rintro e V1 ⟨rfl, hg, hy⟩
  replace K := Lib.hid (K.out.trans (hy.mono K.out.size))
  have HG := Lib.hid (hg)
  rw [← hB] at HG ⊢
  clear hg
  clear hy
  have hB2 : w.heap.size ≤ B := by omega
  clear hB hB1 CN
  obtain ⟨bw, hbw⟩ : ∃ b, b = V1.heap.size := ⟨_, rfl⟩
  have hb2 : B + 2 + st ≤ bw := by rw [hbw]; exact HG.out.lt
  have A1 : Hid (AS B st sz bw (fun _ => none) (.slice none 0 0) w V1) := ⟨HG.out, by rw [itF_none]; exact World.ownsRow_nil _ _ _ _, K.out, fun k u h => (by cases h), Nat.le_of_eq hbw, hB2, hb2⟩
  clear hbw HG K
  have HNS := Lib.hid (sz_le (st := st) (sz := sz) hst.2 hsz.2)
  have HZ0 := Lib.hid (show 0 < sz from hsz.1)
  have HNS2 := HNS
  go_wp2
  go_loopw [10, 9] (fun i vw wr => ∃ (j : Nat) (c : Nat → Option Int), j ≤ ln ∧ i = .int .i64 (j : Int) ∧ Hid (AS B st sz bw c vw w wr)) (fun i _ _ => ln - (RowKit.intOf i).toNat)
  case atStart => exact ⟨0, _, Nat.zero_le _, rfl, A1⟩
  case round =>
    obtain ⟨j, c, hj, rfl, Ar⟩ := hrel
    clear A1
    by_cases hlt : j < ln
    · have d8 : decide ((j : Int) < (ln : Int)) = true := decide_eq_true (by omega)
      have d9 : decide (j < ln) = true := decide_eq_true (by omega)
      have w6 : IntKind.i64.wrap ((j : Int) + 1) = ((j + 1 : Nat) : Int) := by rw [IntKind.wrap_i64]; omega
      have hb0 : 0 ≤ (j : Int) ∧ (j : Int) < (ln : Int) := by omega
      have hjx : A0[j]? = some (A0[j]'(by rw [← HLN.out]; exact hlt)) := List.getElem?_eq_getElem _
      obtain ⟨xf1, xf2, xf3, xf4⟩ := HF.out _ (List.mem_of_getElem? hjx)
      obtain ⟨lb, lo, rfl, ld⟩ := load_act (HV.out.below Ar.out.K) hjx
      generalize A0[j]'(by rw [← HLN.out]; exact hlt) = xa at *
      obtain ⟨kd, a, b, v⟩ := xa
      simp only at xf1 xf2 xf3 xf4 ld
      have LD := Lib.hid ld
      have WA := Lib.hid (w64_bounds xf2)
      have WB := Lib.hid (w64_bounds xf3)
      have WV := Lib.hid xf4
      clear hjx xf1 xf2 xf3 xf4 ld
      go_upto_region 13 with ((with_reducible refine wpList_load_want (op := ⟨some 68, .load 32 (.tmp 67), _, _, _, _⟩) ?wg1 32 (.tmp 67) ?wo1 ⟨lb, lo + j * 4, none⟩ ?wx1 (.agg #[.int .i64 kd, .int .i64 a, .int .i64 b, .int .i64 v]) LD.out ?_); (case wg1 => rfl); (case wo1 => rfl); (case wx1 => rfl))
      obtain ⟨gA, hgA⟩ : ∃ g, g = wr.heap.size := ⟨_, rfl⟩
      have hA1 : bw ≤ gA := by rw [hgA]; exact Ar.out.b
      have hal := (Below.refl wr.heap.size wr).alloc (Nat.le_refl _) (.cells #[.int .i64 kd, .int .i64 a, .int .i64 b, .int .i64 v] 32)
      have pb := Blk.new wr 32 #[.int .i64 kd, .int .i64 a, .int .i64 b, .int .i64 v]
      rw [← hgA] at pb ⊢
      have PB := Lib.hid pb
      have A2 := Lib.hid (Ar.out.below hal)
      clear hgA hal pb LD Ar
      generalize wr.alloc (.cells #[.int .i64 kd, .int .i64 a, .int .i64 b, .int .i64 v] 32) = Va at *
      obtain ⟨inb, hinb⟩ : ∃ q, q = decide (inP st sz a b) := ⟨_, rfl⟩
      have HQ := Lib.hid hinb
      clear hinb
      go_cut [12] (fun t wx => t = .bool inb ∧ Va = wx)
      case first => as_aux_lemma =>
        have pc0 : Va.cell? ⟨gA, 0, none⟩ = some (.int .i64 kd) := PB.out.cell 0
        have pc1 : Va.cell? ⟨gA, 1, none⟩ = some (.int .i64 a) := PB.out.cell 1
        have pc2 : Va.cell? ⟨gA, 2, none⟩ = some (.int .i64 b) := PB.out.cell 2
        have pc3 : Va.cell? ⟨gA, 3, none⟩ = some (.int .i64 v) := PB.out.cell 3
        clear HV HLN HF HZ0 HNS WA WB WV AW A2
        by_cases k0 : a < 0
        · have hqf : inb = false := by rw [HQ.out]; exact decide_eq_false (by unfold inP; omega)
          have c1 : decide (a ≥ 0) = false := decide_eq_false (by omega)
          have c2 : decide (0 ≤ a) = false := decide_eq_false (by omega)
          clear k0
          subst hqf
          go_wp2
          go_meet
          exact ⟨rfl, rfl⟩
        by_cases k1 : (st : Int) ≤ a
        · have hqf : inb = false := by rw [HQ.out]; exact decide_eq_false (by unfold inP; omega)
          have c1 : decide (a ≥ 0) = true := decide_eq_true (by omega)
          have c2 : decide (0 ≤ a) = true := decide_eq_true (by omega)
          have c3 : decide (a < (st : Int)) = false := decide_eq_false (by omega)
          clear k0 k1
          subst hqf
          go_wp2
          go_meet
          exact ⟨rfl, rfl⟩
        by_cases k2 : b < 0
        · have hqf : inb = false := by rw [HQ.out]; exact decide_eq_false (by unfold inP; omega)
          have c1 : decide (a ≥ 0) = true := decide_eq_true (by omega)
          have c2 : decide (0 ≤ a) = true := decide_eq_true (by omega)
          have c3 : decide (a < (st : Int)) = true := decide_eq_true (by omega)
          have c4 : decide (b ≥ 0) = false := decide_eq_false (by omega)
          have c5 : decide (0 ≤ b) = false := decide_eq_false (by omega)
          clear k0 k1 k2
          subst hqf
          go_wp2
          go_meet
          exact ⟨rfl, rfl⟩
        by_cases k3 : (sz : Int) ≤ b
        · have hqf : inb = false := by rw [HQ.out]; exact decide_eq_false (by unfold inP; omega)
          have c1 : decide (a ≥ 0) = true := decide_eq_true (by omega)
          have c2 : decide (0 ≤ a) = true := decide_eq_true (by omega)
          have c3 : decide (a < (st : Int)) = true := decide_eq_true (by omega)
          have c4 : decide (b ≥ 0) = true := decide_eq_true (by omega)
          have c5 : decide (0 ≤ b) = true := decide_eq_true (by omega)
          have c6 : decide (b < (sz : Int)) = false := decide_eq_false (by omega)
          clear k0 k1 k2 k3
          subst hqf
          go_wp2
          go_meet
          exact ⟨rfl, rfl⟩
        have hqf : inb = true := by rw [HQ.out]; exact decide_eq_true (by unfold inP; omega)
        have c1 : decide (a ≥ 0) = true := decide_eq_true (by omega)
        have c2 : decide (0 ≤ a) = true := decide_eq_true (by omega)
        have c3 : decide (a < (st : Int)) = true := decide_eq_true (by omega)
        have c4 : decide (b ≥ 0) = true := decide_eq_true (by omega)
        have c5 : decide (0 ≤ b) = true := decide_eq_true (by omega)
        have c6 : decide (b < (sz : Int)) = true := decide_eq_true (by omega)
        clear k0 k1 k2 k3
        subst hqf
        go_wp2
        go_meet
        exact ⟨rfl, rfl⟩
      case rest =>
        obtain ⟨rfl, hw⟩ := hcut
        subst hw
        obtain ⟨L, hL⟩ : ∃ L, L = itF c 0 (st * sz) := ⟨_, rfl⟩
        obtain ⟨n, hn⟩ : ∃ n, n = L.length := ⟨_, rfl⟩
        have HL := Lib.hid hL
        have HN := Lib.hid hn
        have HNM := Lib.hid (show n ≤ 4096 by rw [hn, hL]; exact Nat.le_trans (itF_len _ _ _) HNS.out)
        have HV2 := Lib.hid A2.out.V
        rw [← hL, ← hn] at HV2
        clear hL hn
        obtain ⟨aw, cw, rfl⟩ := row_shape HV2.out
        go_upto_block 2 with fail
        go_cut [13] (fun t wx => ∃ q : Nat, q ≤ n ∧ t = .int .i64 (q : Int) ∧ Hid (q = (L.takeWhile (bfP sz a b)).length) ∧ Hid (AS B st sz bw c (.slice aw n cw) w wx) ∧ Hid (Blk wx gA 32 #[.int .i64 kd, .int .i64 a, .int .i64 b, .int .i64 v]))
        case first => as_aux_lemma =>
          have hnm := HNM.out
          clear HV HLN HF AW WV HQ HNS HZ0
          go_wp2
          go_loopw [13] (fun t wr => ∃ q : Nat, q ≤ n ∧ t = .int .i64 (q : Int) ∧ Hid (∀ j x, j < q → L[j]? = some x → bfP sz a b x = true) ∧ Hid (AS B st sz bw c (.slice aw n cw) w wr) ∧ Hid (Blk wr gA 32 #[.int .i64 kd, .int .i64 a, .int .i64 b, .int .i64 v])) (fun t _ => n - (RowKit.intOf t).toNat)
          case atStart => exact ⟨0, Nat.zero_le _, rfl, Lib.hid (fun j x h => absurd h (Nat.not_lt_zero _)), A2, PB⟩
          case round =>
            obtain ⟨q, hq1, rfl, HTW, Aq, Pq⟩ := hrel
            clear A2 PB HV2
            by_cases hl2 : q < n
            · have d10 : decide ((q : Int) < (n : Int)) = true := decide_eq_true (by omega)
              have d11 : decide (q < n) = true := decide_eq_true (by omega)
              have hb3 : 0 ≤ (q : Int) ∧ (q : Int) < (n : Int) := by omega
              have w7 : IntKind.i64.wrap ((q : Int) + 1) = ((q + 1 : Nat) : Int) := by rw [IntKind.wrap_i64]; omega
              have hLq : L[q]? = some (L[q]'(by rw [← HN.out]; exact hl2)) := List.getElem?_eq_getElem _
              generalize L[q]'(by rw [← HN.out]; exact hl2) = x at hLq
              have hrd := rdR_own (Aq.out.V)
              rw [← HL.out] at hrd
              obtain ⟨gW, cur, rfl, hWb, x0, x1, -⟩ := hrd.at q x hLq
              have CB := Lib.hid (fun W => before_any ((x.1 / sz : Nat) : Int) ((x.1 % sz : Nat) : Int) a b W)
              have HBF := Lib.hid (show bfP sz a b x = decide (((x.1 / sz : Nat) : Int) < a ∨ ((x.1 / sz : Nat) : Int) = a ∧ ((x.1 % sz : Nat) : Int) < b) from rfl)
              rw [← HBF.out] at CB
              have HLQ := Lib.hid hLq
              obtain ⟨xs, hxs⟩ : ∃ q, q = x.1 / sz := ⟨_, rfl⟩
              obtain ⟨xi, hxi⟩ : ∃ q, q = x.1 % sz := ⟨_, rfl⟩
              rw [← hxs] at x0 CB
              rw [← hxi] at x1 CB
              have X0 := Lib.hid x0
              have X1 := Lib.hid x1
              have WBk := Lib.hid hWb
              obtain ⟨bt, hbt⟩ : ∃ t, t = bfP sz a b x := ⟨_, rfl⟩
              rw [← hbt] at CB
              have HBT := Lib.hid hbt
              clear hbt hxs hxi x0 x1 hWb hrd hLq HBF
              go_wp2_with fail
              refine wp_region_held (S := (fun w' : World => Blk w' (gW) 35 cur ∧ Blk w' (gA) 32 #[.int .i64 kd, .int .i64 a, .int .i64 b, .int .i64 v])) (by kernel_rfl) ?_
              change wpAnyH _ _ _ _ _ _ _ _ wr.drew
              have hy : Below wr.heap.size wr wr.drew := (Below.refl _ _).drew
              replace Aq := Lib.hid (Aq.out.below hy)
              replace Pq := Lib.hid (Pq.out.below hy Pq.out.lt)
              replace WBk := Lib.hid (WBk.out.below hy WBk.out.lt)
              clear hy
              generalize wr.drew = Y15h0 at *
              refine tkA 0 (?_) ?_ ⟨WBk.out, Pq.out⟩ ?_
              rotate_left
              · (intro w1 hS; go_simp; try with_reducible rfl)
              simp only [Act.put, tS1, tS2, tS3]
              refine tkA 1 (?_) ?_ ⟨WBk.out, Pq.out⟩ ?_
              rotate_left
              · (intro w1 hS; go_simp; try with_reducible rfl)
              simp only [Act.put, tS1, tS2, tS3]
              refine tkA 2 (?_) ?_ ⟨WBk.out, Pq.out⟩ ?_
              rotate_left
              · (intro w1 hS; go_simp; try with_reducible rfl)
              simp only [Act.put, tS1, tS2, tS3]
              refine tkA 3 (?_) ?_ ⟨WBk.out, Pq.out⟩ ?_
              rotate_left
              · (intro w1 hS; go_simp; try with_reducible rfl)
              simp only [Act.put, tS1, tS2, tS3]
              refine tkA 4 (?_) ?_ ⟨WBk.out, Pq.out⟩ ?_
              rotate_left
              · (intro w1 hS; go_simp; try with_reducible rfl)
              simp only [Act.put, tS1, tS2, tS3]
              refine tkA 5 (?_) ?_ ⟨WBk.out, Pq.out⟩ ?_
              rotate_left
              · (intro w1 hS; go_simp; try with_reducible rfl)
              simp only [Act.put, tS1, tS2, tS3]
              refine tkA 6 (?_) ?_ ⟨WBk.out, Pq.out⟩ ?_
              rotate_left
              · (intro w1 hS; go_simp; try with_reducible rfl)
              simp only [Act.put, tS1, tS2, tS3]
              refine tkA 7 (?_) ?_ ⟨WBk.out, Pq.out⟩ ?_
              rotate_left
              · (intro w1 hS; go_simp; try with_reducible rfl)
              simp only [Act.put, tS1, tS2, tS3]
              refine tkA 8 (?_) ?_ ⟨WBk.out, Pq.out⟩ ?_
              rotate_left
              · (intro w1 hS; go_simp; try with_reducible rfl)
              simp only [Act.put, tS1, tS2, tS3]
              refine tkA 9 (.agg #[.int .i64 (xs : Int), .int .i64 (xi : Int)]) ?_ ⟨WBk.out, Pq.out⟩ ?_
              · (intro w1 hS; exact exec_load 30 (.tmp 101) rfl _ rfl _ (load_pl hS.1 X0.out X1.out))
              simp only [Act.put, tS1, tS2, tS3]
              refine tkA 10 (?_) ?_ ⟨WBk.out, Pq.out⟩ ?_
              rotate_left
              · (intro w1 hS; go_simp; try with_reducible rfl)
              simp only [Act.put, tS1, tS2, tS3]
              refine tkA 11 (?_) ?_ ⟨WBk.out, Pq.out⟩ ?_
              rotate_left
              · (intro w1 hS; obtain ⟨hS0, hS1⟩ := hS; have q1 : w1.cell? ⟨gA, 1, none⟩ = some (.int .i64 a) := hS1.cell 1; have q2 : w1.cell? ⟨gA, 2, none⟩ = some (.int .i64 b) := hS1.cell 2; go_simp; try with_reducible rfl)
              simp only [Act.put, tS1, tS2, tS3]
              refine tkO 12 (fun KK hK => ?_)
              go_simp
              refine (CB.out Y15h0).mono ?_
              rintro e Y15h1 ⟨rfl, hy⟩
              replace Aq := Lib.hid (Aq.out.below hy)
              replace Pq := Lib.hid (Pq.out.below hy Pq.out.lt)
              replace WBk := Lib.hid (WBk.out.below hy WBk.out.lt)
              clear hy
              refine hK.out _ _ ⟨WBk.out, Pq.out⟩ (fun _ => ?_)
              clear hK KK
              try simp only [Act.put, tS1, tS2, tS3]
              refine tkA 13 (?_) ?_ ⟨WBk.out, Pq.out⟩ ?_
              rotate_left
              · (intro w1 hS; go_simp; try with_reducible rfl)
              simp only [Act.put, tS1, tS2, tS3]
              refine wpAnyH_done (by kernel_rfl) ?_ _
              cases bt with
              | true =>
                have HT2 := Lib.hid HTW.out
                have HTN : Hid (∀ j y, j < q + 1 → L[j]? = some y → bfP sz a b y = true) := by
                  show ∀ j y, _
                  intro j y hj hy
                  by_cases e : j = q
                  · subst e
                    have e2 := HLQ.out.symm.trans hy
                    obtain rfl := Option.some.inj e2
                    exact HBT.out.symm
                  · exact HTW.out j y (by omega) hy
                clear HT2 HTW
                go_wp2
                go_roundw
                case rel => exact ⟨q + 1, hl2, by go_num, HTN, Aq, Pq⟩
                case measure => simp [RowKit.intOf]; omega
              | false =>
                go_wp2
                go_meet
                exact ⟨q, hq1, rfl, Lib.hid (tw_len _ L q (by rw [← HN.out]; exact hq1) HTW.out (fun y hy => by have e2 := HLQ.out.symm.trans hy; obtain rfl := Option.some.inj e2; exact HBT.out.symm)), Aq, Pq⟩
            · obtain rfl : q = n := by omega
              have d10 : decide (((q : Nat) : Int) < (q : Int)) = false := decide_eq_false (by omega)
              have d11 : decide (q < q) = false := decide_eq_false (by omega)
              go_wp2_with fail
              refine wp_region_held (S := (fun w' : World => Blk w' (gA) 32 #[.int .i64 kd, .int .i64 a, .int .i64 b, .int .i64 v])) (by kernel_rfl) ?_
              change wpAnyH _ _ _ _ _ _ _ _ wr.drew
              have hy : Below wr.heap.size wr wr.drew := (Below.refl _ _).drew
              replace Aq := Lib.hid (Aq.out.below hy)
              replace Pq := Lib.hid (Pq.out.below hy Pq.out.lt)
              clear hy
              generalize wr.drew = Y15h0 at *
              refine tkA 0 (?_) ?_ Pq.out ?_
              rotate_left
              · (intro w1 hS; go_simp; try with_reducible rfl)
              simp only [Act.put, tS1, tS2, tS3]
              refine tkA 1 (?_) ?_ Pq.out ?_
              rotate_left
              · (intro w1 hS; go_simp; try with_reducible rfl)
              simp only [Act.put, tS1, tS2, tS3]
              refine tkA 2 (?_) ?_ Pq.out ?_
              rotate_left
              · (intro w1 hS; go_simp; try with_reducible rfl)
              simp only [Act.put, tS1, tS2, tS3]
              refine tkA 3 (?_) ?_ Pq.out ?_
              rotate_left
              · (intro w1 hS; go_simp; try with_reducible rfl)
              simp only [Act.put, tS1, tS2, tS3]
              refine tkA 4 (?_) ?_ Pq.out ?_
              rotate_left
              · (intro w1 hS; go_simp; try with_reducible rfl)
              simp only [Act.put, tS1, tS2, tS3]
              refine tkN 5 Pq.out ?_
              simp only [Act.put, tS1, tS2, tS3]
              refine tkN 6 Pq.out ?_
              simp only [Act.put, tS1, tS2, tS3]
              refine tkN 7 Pq.out ?_
              simp only [Act.put, tS1, tS2, tS3]
              refine tkN 8 Pq.out ?_
              simp only [Act.put, tS1, tS2, tS3]
              refine tkN 9 Pq.out ?_
              simp only [Act.put, tS1, tS2, tS3]
              refine tkN 10 Pq.out ?_
              simp only [Act.put, tS1, tS2, tS3]
              refine tkN 11 Pq.out ?_
              simp only [Act.put, tS1, tS2, tS3]
              refine tkN 12 Pq.out ?_
              simp only [Act.put, tS1, tS2, tS3]
              refine tkA 13 (?_) ?_ Pq.out ?_
              rotate_left
              · (intro w1 hS; go_simp; try with_reducible rfl)
              simp only [Act.put, tS1, tS2, tS3]
              refine wpAnyH_done (by kernel_rfl) ?_ _
              go_wp2
              go_meet
              exact ⟨q, Nat.le_refl _, rfl, Lib.hid (tw_len _ L q (by rw [← HN.out]; exact Nat.le_refl _) HTW.out (fun y hy => by rw [List.getElem?_eq_none (by rw [← HN.out]; exact Nat.le_refl _)] at hy; cases hy)), Aq, Pq⟩
        case rest =>
          clear A2 PB HV2
          obtain ⟨q, hq1, rfl, HTW, A3, PB⟩ := hcut
          have RH := has_eq st sz c a b HZ0.out q (by rw [← HL.out]; exact HTW.out)
          rw [← HL.out, ← HN.out] at RH
          obtain ⟨o, ho⟩ : ∃ o, o = lkP st sz c a b := ⟨_, rfl⟩
          rw [← ho] at RH
          have HO := Lib.hid ho
          obtain ⟨hs, hhs⟩ : ∃ t, t = o.isSome := ⟨_, rfl⟩
          rw [← hhs] at RH
          have HHS := Lib.hid hhs
          have RH1 := Lib.hid RH.1
          have RH2 := Lib.hid RH.2
          clear RH ho hhs
          go_upto_region 17 with fail
          go_cut [14] (fun t wx => t = .bool hs ∧ Hid (AS B st sz bw c (.slice aw n cw) w wx) ∧ Hid (Blk wx gA 32 #[.int .i64 kd, .int .i64 a, .int .i64 b, .int .i64 v]))
          case first => as_aux_lemma =>
            have hnm := HNM.out
            clear HV HLN HF AW WV HQ HNS
            by_cases hl2 : q < n
            · have d10 : decide ((q : Int) < (n : Int)) = true := decide_eq_true (by omega)
              have d11 : decide (q < n) = true := decide_eq_true (by omega)
              have hb3 : 0 ≤ (q : Int) ∧ (q : Int) < (n : Int) := by omega
              have hLq : L[q]? = some (L[q]'(by rw [← HN.out]; exact hl2)) := List.getElem?_eq_getElem _
              generalize L[q]'(by rw [← HN.out]; exact hl2) = x at hLq
              have hrd := rdR_own (A3.out.V)
              rw [← HL.out] at hrd
              obtain ⟨gW, cur, rfl, hWb, x0, x1, -⟩ := hrd.at q x hLq
              have hxl := (item_in (HL.out ▸ hLq)).1
              have hRq := RH1.out x hLq
              have hns := HNS2.out
              have hal := Nat.div_le_self x.1 sz
              have hbl := Nat.mod_le x.1 sz
              obtain ⟨xs, hxs⟩ : ∃ q, q = x.1 / sz := ⟨_, rfl⟩
              obtain ⟨xi, hxi⟩ : ∃ q, q = x.1 % sz := ⟨_, rfl⟩
              rw [← hxs] at x0 hal hRq
              rw [← hxi] at x1 hbl hRq
              have EQ := Lib.hid (fun W => (eq_pl xs xi a b (i64_wf _ (by omega)) (i64_wf _ (by omega)) (i64_wf _ WA.out) (i64_wf _ WB.out) W))
              rw [hRq] at EQ
              have X0 := Lib.hid x0
              have X1 := Lib.hid x1
              have WBk := Lib.hid hWb
              clear hxs hxi x0 x1 hWb hrd hLq hRq hal hbl hxl hns
              go_wp2_with fail
              refine wp_region_held (S := (fun w' : World => Blk w' (gW) 35 cur ∧ Blk w' (gA) 32 #[.int .i64 kd, .int .i64 a, .int .i64 b, .int .i64 v])) (by kernel_rfl) ?_
              change wpAnyH _ _ _ _ _ _ _ _ wc.drew
              have hy : Below wc.heap.size wc wc.drew := (Below.refl _ _).drew
              replace A3 := Lib.hid (A3.out.below hy)
              replace PB := Lib.hid (PB.out.below hy PB.out.lt)
              replace WBk := Lib.hid (WBk.out.below hy WBk.out.lt)
              clear hy
              generalize wc.drew = Y17h0 at *
              refine tkA 0 (?_) ?_ ⟨WBk.out, PB.out⟩ ?_
              rotate_left
              · (intro w1 hS; go_simp; try with_reducible rfl)
              simp only [Act.put, tS1, tS2, tS3]
              refine tkA 1 (?_) ?_ ⟨WBk.out, PB.out⟩ ?_
              rotate_left
              · (intro w1 hS; go_simp; try with_reducible rfl)
              simp only [Act.put, tS1, tS2, tS3]
              refine tkA 2 (?_) ?_ ⟨WBk.out, PB.out⟩ ?_
              rotate_left
              · (intro w1 hS; go_simp; try with_reducible rfl)
              simp only [Act.put, tS1, tS2, tS3]
              refine tkA 3 (?_) ?_ ⟨WBk.out, PB.out⟩ ?_
              rotate_left
              · (intro w1 hS; go_simp; try with_reducible rfl)
              simp only [Act.put, tS1, tS2, tS3]
              refine tkA 4 (?_) ?_ ⟨WBk.out, PB.out⟩ ?_
              rotate_left
              · (intro w1 hS; go_simp; try with_reducible rfl)
              simp only [Act.put, tS1, tS2, tS3]
              refine tkA 5 (?_) ?_ ⟨WBk.out, PB.out⟩ ?_
              rotate_left
              · (intro w1 hS; go_simp; try with_reducible rfl)
              simp only [Act.put, tS1, tS2, tS3]
              refine tkA 6 (?_) ?_ ⟨WBk.out, PB.out⟩ ?_
              rotate_left
              · (intro w1 hS; go_simp; try with_reducible rfl)
              simp only [Act.put, tS1, tS2, tS3]
              refine tkA 7 (?_) ?_ ⟨WBk.out, PB.out⟩ ?_
              rotate_left
              · (intro w1 hS; go_simp; try with_reducible rfl)
              simp only [Act.put, tS1, tS2, tS3]
              refine tkA 8 (?_) ?_ ⟨WBk.out, PB.out⟩ ?_
              rotate_left
              · (intro w1 hS; go_simp; try with_reducible rfl)
              simp only [Act.put, tS1, tS2, tS3]
              refine tkA 9 (.agg #[.int .i64 (xs : Int), .int .i64 (xi : Int)]) ?_ ⟨WBk.out, PB.out⟩ ?_
              · (intro w1 hS; exact exec_load 30 (.tmp 117) rfl _ rfl _ (load_pl hS.1 X0.out X1.out))
              simp only [Act.put, tS1, tS2, tS3]
              refine tkA 10 (?_) ?_ ⟨WBk.out, PB.out⟩ ?_
              rotate_left
              · (intro w1 hS; go_simp; try with_reducible rfl)
              simp only [Act.put, tS1, tS2, tS3]
              refine tkA 11 (?_) ?_ ⟨WBk.out, PB.out⟩ ?_
              rotate_left
              · (intro w1 hS; obtain ⟨hS0, hS1⟩ := hS; have q1 : w1.cell? ⟨gA, 1, none⟩ = some (.int .i64 a) := hS1.cell 1; have q2 : w1.cell? ⟨gA, 2, none⟩ = some (.int .i64 b) := hS1.cell 2; go_simp; try with_reducible rfl)
              simp only [Act.put, tS1, tS2, tS3]
              refine tkA 12 (.bool hs) ?_ ⟨WBk.out, PB.out⟩ ?_
              · (intro w1 hS; exact exec_eqlA gd30 (.tmp 118) (.tmp 120) rfl _ _ rfl rfl hs (EQ.out w1))
              simp only [Act.put, tS1, tS2, tS3]
              refine tkA 13 (?_) ?_ ⟨WBk.out, PB.out⟩ ?_
              rotate_left
              · (intro w1 hS; go_simp; try with_reducible rfl)
              simp only [Act.put, tS1, tS2, tS3]
              refine tkA 14 (?_) ?_ ⟨WBk.out, PB.out⟩ ?_
              rotate_left
              · (intro w1 hS; go_simp; try with_reducible rfl)
              simp only [Act.put, tS1, tS2, tS3]
              refine wpAnyH_done (by kernel_rfl) ?_ _
              go_wp2
              go_meet
              exact ⟨rfl, A3, PB⟩
            · have HSF : Hid (hs = false) := RH2.out (Nat.le_of_not_lt hl2)
              have d10 : decide ((q : Int) < (n : Int)) = false := decide_eq_false (by omega)
              have d11 : decide (q < n) = false := decide_eq_false (by omega)
              go_wp2_with fail
              refine wp_region_held (S := (fun w' : World => Blk w' (gA) 32 #[.int .i64 kd, .int .i64 a, .int .i64 b, .int .i64 v])) (by kernel_rfl) ?_
              change wpAnyH _ _ _ _ _ _ _ _ wc.drew
              have hy : Below wc.heap.size wc wc.drew := (Below.refl _ _).drew
              replace A3 := Lib.hid (A3.out.below hy)
              replace PB := Lib.hid (PB.out.below hy PB.out.lt)
              clear hy
              generalize wc.drew = Y17h0 at *
              refine tkA 0 (?_) ?_ PB.out ?_
              rotate_left
              · (intro w1 hS; go_simp; try with_reducible rfl)
              simp only [Act.put, tS1, tS2, tS3]
              refine tkA 1 (?_) ?_ PB.out ?_
              rotate_left
              · (intro w1 hS; go_simp; try with_reducible rfl)
              simp only [Act.put, tS1, tS2, tS3]
              refine tkA 2 (?_) ?_ PB.out ?_
              rotate_left
              · (intro w1 hS; go_simp; try with_reducible rfl)
              simp only [Act.put, tS1, tS2, tS3]
              refine tkA 3 (?_) ?_ PB.out ?_
              rotate_left
              · (intro w1 hS; go_simp; try with_reducible rfl)
              simp only [Act.put, tS1, tS2, tS3]
              refine tkA 4 (?_) ?_ PB.out ?_
              rotate_left
              · (intro w1 hS; go_simp; try with_reducible rfl)
              simp only [Act.put, tS1, tS2, tS3]
              refine tkN 5 PB.out ?_
              simp only [Act.put, tS1, tS2, tS3]
              refine tkN 6 PB.out ?_
              simp only [Act.put, tS1, tS2, tS3]
              refine tkN 7 PB.out ?_
              simp only [Act.put, tS1, tS2, tS3]
              refine tkN 8 PB.out ?_
              simp only [Act.put, tS1, tS2, tS3]
              refine tkN 9 PB.out ?_
              simp only [Act.put, tS1, tS2, tS3]
              refine tkN 10 PB.out ?_
              simp only [Act.put, tS1, tS2, tS3]
              refine tkN 11 PB.out ?_
              simp only [Act.put, tS1, tS2, tS3]
              refine tkN 12 PB.out ?_
              simp only [Act.put, tS1, tS2, tS3]
              refine tkA 13 (?_) ?_ PB.out ?_
              rotate_left
              · (intro w1 hS; go_simp; try with_reducible rfl)
              simp only [Act.put, tS1, tS2, tS3]
              refine tkA 14 (?_) ?_ PB.out ?_
              rotate_left
              · (intro w1 hS; go_simp; try with_reducible rfl)
              simp only [Act.put, tS1, tS2, tS3]
              refine wpAnyH_done (by kernel_rfl) ?_ _
              go_wp2
              go_meet
              exact ⟨by rw [HSF.out], A3, PB⟩
          case rest =>
            clear A3 PB RH1 RH2
            obtain ⟨rfl, A3, PB⟩ := hcut
            have pc0 : wc.cell? ⟨gA, 0, none⟩ = some (.int .i64 kd) := PB.out.cell 0
            have pc1 : wc.cell? ⟨gA, 1, none⟩ = some (.int .i64 a) := PB.out.cell 1
            have pc2 : wc.cell? ⟨gA, 2, none⟩ = some (.int .i64 b) := PB.out.cell 2
            have pc3 : wc.cell? ⟨gA, 3, none⟩ = some (.int .i64 v) := PB.out.cell 3
            go_upto_block 4 with fail
            go_cut [9] (fun vw' wx => ∃ c' : Nat → Option Int, Hid (AS B st sz bw c' vw' w wx) ∧ Hid (Blk wx gA 32 #[.int .i64 kd, .int .i64 a, .int .i64 b, .int .i64 v]))
            case first =>
              have hnm := HNM.out
              have hBb := A3.out.h2
              have hAl := PB.out.lt
              clear HV HLN HF AW HNS HNS2 pc1 pc2 pc3 pc0
              have hhb : (hs != hs) = false := by cases hs <;> rfl
              have hib : (inb != inb) = false := by cases inb <;> rfl
              by_cases k1 : kd = 1
              · as_aux_lemma =>
                have e1 : (kd == 1) = true := by rw [beq_iff_eq]; exact k1
                have CS := Lib.hid (fun W h => setI_any B st sz c a b v W h)
                rw [← HQ.out] at CS
                unfold plA at CS
                clear k1
                have pc0 : wc.cell? ⟨gA, 0, none⟩ = some (.int .i64 kd) := PB.out.cell 0
                have pc1 : wc.cell? ⟨gA, 1, none⟩ = some (.int .i64 a) := PB.out.cell 1
                have pc2 : wc.cell? ⟨gA, 2, none⟩ = some (.int .i64 b) := PB.out.cell 2
                have pc3 : wc.cell? ⟨gA, 3, none⟩ = some (.int .i64 v) := PB.out.cell 3
                go_wp2_with fail
                clear pc0 pc1 pc2 pc3
                refine (CS.out wc A3.out.G).mono ?_
                rintro e V5 ⟨rfl, hg, ha⟩
                have G5 := Lib.hid hg
                have V5r := Lib.hid (row_apart A3.out.V ha (by omega))
                have K5 := Lib.hid (A3.out.K.trans (ha.below A3.out.h1 A3.out.K.size))
                have B5 := Lib.hid (Nat.le_trans A3.out.b ha.size)
                replace PB := Lib.hid (ha.blk PB.out (.inr (by omega)))
                have H1 := Lib.hid A3.out.h1
                have F5 := Lib.hid A3.out.F
                clear hg ha CS A3
                cases hs with
                | true =>
                  obtain ⟨u, hu⟩ := Option.isSome_iff_exists.1 HHS.out.symm
                  have hlk : lkP st sz c a b = some u := by rw [← HO.out]; exact hu
                  obtain ⟨k, t1, t2, t3, t4, t5, t6, t7⟩ := hit_item st sz c a b u hlk q (by rw [← HL.out]; exact HTW.out)
                  obtain ⟨s1, s2⟩ := set_item st sz c a b u v hlk q (by rw [← HL.out]; exact HTW.out)
                  have hv6 := V5r.out
                  rw [← HL.out, ← HN.out] at hv6
                  rcases row_two hv6 with ⟨h1, h2⟩ | ⟨gW, cap, cur, h1, h2, h3, hWb, hcl⟩
                  · exfalso
                    have := (List.getElem?_eq_some_iff.1 t1).1
                    rw [← HL.out, ← HN.out] at this
                    omega
                  · simp only [Value.slice.injEq] at h1
                    obtain ⟨h1a, -, h1c⟩ := h1
                    subst h1c
                    subst h1a
                    have hqn : q < (itF c 0 (st * sz)).length := (List.getElem?_eq_some_iff.1 t1).1
                    rw [← HL.out, ← HN.out] at hqn
                    have hb3 : 0 ≤ (q : Int) ∧ (q : Int) < (n : Int) := by omega
                    have cw2 : V5.cell? ⟨gW, q * 3 + 2, none⟩ = some (.int .i64 u) := by
                      rw [hWb.cell]
                      rw [← HL.out] at t1
                      exact hcl _ _ ((icells_get sz _ q 2 _ t1 (by omega)).trans rfl)
                    have fw2 := hWb.frozen (q * 3 + 2)
                    have hne := blk_ne PB.out hWb (by decide)
                    obtain ⟨o1, o2⟩ := hv6.stored (q * 3 + 2) (.int .i64 v)
                    rw [← HL.out, ← HN.out] at s1
                    rw [← HL.out] at s2
                    rw [← s2] at o1
                    rw [← s1] at o1
                    have A6 : Hid (AS B st sz bw (ptP st sz c a b (some v)) (.slice (some ⟨gW, 0, none⟩) n cw) w (V5.setCell ⟨gW, q * 3 + 2, none⟩ (.int .i64 v))) :=
                      ⟨G5.out.grown o2 (.inr (by omega)), by rw [s1] at o1 ⊢; exact o1, K5.out.setCell (p := ⟨gW, q * 3 + 2, none⟩) (by have := H1.out; show w.heap.size ≤ gW; omega) _, wf_put F5.out (fun u h => by cases h; exact WV.out), Nat.le_trans B5.out o2.size, H1.out, hBb⟩
                    have P6 := Lib.hid (PB.out.far (p := ⟨gW, q * 3 + 2, none⟩) hne (.int .i64 v))
                    have pc3 : V5.cell? ⟨gA, 3, none⟩ = some (.int .i64 v) := PB.out.cell 3
                    clear t1 t2 t3 t4 t5 t6 t7 s1 s2 hWb hcl hqn hlk hu o1 o2 hv6
                    go_wp2
                    go_meet
                    exact ⟨_, A6, P6⟩
                | false =>
                  have hlk : lkP st sz c a b = none := by
                    rw [← HO.out]
                    have := HHS.out
                    cases o with
                    | none => rfl
                    | some u => cases this
                  cases inb with
                  | false =>
                    have hpi : ¬ inP st sz a b := fun h => by have := HQ.out; rw [decide_eq_true h] at this; cases this
                    have hpt := ptP_no c hpi (some v)
                    have A6 : Hid (AS B st sz bw c (.slice aw n cw) w V5) := ⟨by rw [← hpt]; exact G5.out, V5r.out, K5.out, F5.out, B5.out, H1.out, hBb⟩
                    clear hpi hpt hlk
                    go_wp2
                    go_meet
                    exact ⟨_, A6, PB⟩
                  | true =>
                    have hpi : inP st sz a b := of_decide_eq_true HQ.out.symm
                    obtain ⟨s1, s2⟩ := ins_item st sz c a b v hpi hlk q (by rw [← HL.out]; exact HTW.out)
                    rw [← HL.out, ← HN.out] at s1
                    rw [← HL.out] at s2
                    have S1 := Lib.hid s1
                    have S2 := Lib.hid s2
                    have V6 : Hid (V5.ownsRow bw 35 3 (.slice aw n cw) n (icells sz L)) := by
                      show World.ownsRow _ _ _ _ _ _ _
                      have := V5r.out
                      rw [← HL.out, ← HN.out] at this
                      exact this
                    have HIC := Lib.hid (icells_ints sz L)
                    have hAl5 := PB.out.lt
                    have hB5 := B5.out
                    clear s1 s2 hpi hlk V5r HO HHS
                    rcases row_two V6.out with ⟨h1, h2⟩ | ⟨gW, cap, cur, h1, h2, h3, -, -⟩
                    · as_aux_lemma =>
                      simp only [Value.slice.injEq] at h1
                      obtain ⟨h1a, h1b, h1c⟩ := h1
                      subst h1a
                      subst h1c
                      have HLE : Hid (icells sz L = []) := by
                        show _ = _
                        have := HN.out
                        rw [List.eq_nil_of_length_eq_zero (show L.length = 0 by omega)]; rfl
                      obtain rfl : q = 0 := by omega
                      obtain rfl : n = 0 := h2
                      clear h1b
                      go_upto_region 28 with fail
                      have hlow : V5.heap.size ≤ V5.heap.size := Nat.le_refl _
                      refine wp_region_held (S := (fun w' : World => Below (V5.heap.size) V5 w')) (by kernel_rfl) ?_
                      change wpAnyH _ _ _ _ _ _ _ _ V5.drew
                      have hE0 : Below (V5.heap.size) V5 V5.drew := (Below.refl _ _).drew
                      generalize V5.drew = Y28x0 at hE0 ⊢
                      have E0 := Lib.hid hE0
                      clear hE0
                      refine tkA 1 (?_) ?_ E0.out ?_
                      rotate_left
                      · (intro w1 hS; go_simp; try with_reducible rfl)
                      simp only [Act.put, tS1, tS2, tS3]
                      refine tkA 2 (?_) ?_ E0.out ?_
                      rotate_left
                      · (intro w1 hS; go_simp; try with_reducible rfl)
                      simp only [Act.put, tS1, tS2, tS3]
                      refine tkA 3 (?_) ?_ E0.out ?_
                      rotate_left
                      · (intro w1 hS; go_simp; try with_reducible rfl)
                      simp only [Act.put, tS1, tS2, tS3]
                      refine tkA 5 (?_) ?_ E0.out ?_
                      rotate_left
                      · (intro w1 hS; go_simp; try with_reducible rfl)
                      simp only [Act.put, tS1, tS2, tS3]
                      refine tkA 6 (?_) ?_ E0.out ?_
                      rotate_left
                      · (intro w1 hS; have hW := hS; have pq := PB.out.below hW hAl5; have q1 : w1.cell? ⟨gA, 1, none⟩ = some (.int .i64 a) := pq.cell 1; have q2 : w1.cell? ⟨gA, 2, none⟩ = some (.int .i64 b) := pq.cell 2; have q3 : w1.cell? ⟨gA, 3, none⟩ = some (.int .i64 v) := pq.cell 3; clear pq; clear hW hS; go_simp; try with_reducible rfl)
                      simp only [Act.put, tS1, tS2, tS3]
                      refine tkA 7 (?_) ?_ E0.out ?_
                      rotate_left
                      · (intro w1 hS; go_simp; try with_reducible rfl)
                      simp only [Act.put, tS1, tS2, tS3]
                      refine tkA 8 (?_) ?_ E0.out ?_
                      rotate_left
                      · (intro w1 hS; have hW := hS; have pq := PB.out.below hW hAl5; have q1 : w1.cell? ⟨gA, 1, none⟩ = some (.int .i64 a) := pq.cell 1; have q2 : w1.cell? ⟨gA, 2, none⟩ = some (.int .i64 b) := pq.cell 2; have q3 : w1.cell? ⟨gA, 3, none⟩ = some (.int .i64 v) := pq.cell 3; clear pq; clear hW hS; go_simp; try with_reducible rfl)
                      simp only [Act.put, tS1, tS2, tS3]
                      refine tkA 9 (.agg #[.int .i64 a, .int .i64 b, .int .i64 v]) ?_ E0.out ?_
                      · (intro w1 hS; exact exec_build 35 _ rfl #[(0, .agg #[.int .i64 a, .int .i64 b]), (1, .int .i64 v)] (by kernel_rfl) #[.int .i64 a, .int .i64 b, .int .i64 v] (built35 _ _ _))
                      simp only [Act.put, tS1, tS2, tS3]
                      refine tkA 12 (?_) ?_ E0.out ?_
                      rotate_left
                      · (intro w1 hS; go_simp; try with_reducible rfl)
                      simp only [Act.put, tS1, tS2, tS3]
                      refine tkA 13 (?_) ?_ E0.out ?_
                      rotate_left
                      · (intro w1 hS; go_simp; try with_reducible rfl)
                      simp only [Act.put, tS1, tS2, tS3]
                      refine tkA 14 (?_) ?_ E0.out ?_
                      rotate_left
                      · (intro w1 hS; go_simp; try with_reducible rfl)
                      simp only [Act.put, tS1, tS2, tS3]
                      refine wpAnyH_ready (rs := [0, 10]) (by kernel_rfl) (by simp) ?_
                      refine AllReadyH.cons (o := { dst := some 173, op := Op.buildSlice 28 0 #[], type := 28, pos := "law.go:88", after := #[], guard := none }) rfl (fun KK hK => ?_) (AllReadyH.cons (o := { dst := some 183, op := Op.buildSlice 28 1 #[(0, Operand.tmp 182)], type := 28, pos := "law.go:88", after := #[{ on := 9, ground := Ground.data }], guard := none }) rfl (fun KK hK => ?_) AllReadyH.nil)
                      · go_simp
                        have hr := own_none3 Y28x0 35
                        have hy := (Below.refl Y28x0.heap.size Y28x0).alloc (Nat.le_refl _) (.cells #[] 35)
                        generalize Y28x0.alloc (.cells #[] 35) = Y28x1 at hr hy ⊢
                        have qs0 : Y28x0.heap.size < Y28x1.heap.size := (hr.lt _ rfl).2
                        have R0 := Lib.hid (own_low2 (b1 := V5.heap.size) E0.out.size hr)
                        have E1 := Lib.hid (E0.out.trans (hy.mono E0.out.size))
                        clear hr hy E0
                        refine hK.out _ _ E1.out (fun _ => ?_)
                        clear hK KK
                        try simp only [Act.put, tS1, tS2, tS3]
                        refine wpAnyH_ready (rs := [4, 10]) (by kernel_rfl) (by simp) ?_
                        refine AllReadyH.cons (o := { dst := some 177, op := Op.call { callee := Callee.builtin Builtin.append, args := #[Operand.tmp 173, Operand.tmp 176], argTypes := #[28, 28] }, type := 28, pos := "law.go:88", after := #[{ on := 0, ground := Ground.data }, { on := 3, ground := Ground.data }], guard := none }) rfl (fun KK hK => ?_) (AllReadyH.cons (o := { dst := some 183, op := Op.buildSlice 28 1 #[(0, Operand.tmp 182)], type := 28, pos := "law.go:88", after := #[{ on := 9, ground := Ground.data }], guard := none }) rfl (fun KK hK => ?_) AllReadyH.nil)
                        · rw [if_pos (by rfl)]
                          refine wpG_apps (.tmp 173) (.tmp 176) rfl (V5.heap.size) (.slice (some ⟨Y28x0.heap.size, 0, none⟩) 0 0) 0 [] rfl R0.out none 0 0 [] rfl (rd3_nil _) (fun _ => rfl) (fun u hu => absurd hu List.not_mem_nil) (by omega) E1.out.size ?_
                          intro v1 Y28x2 oz gz
                          have E2 := Lib.hid (E1.out.grown gz E1.out.size (fun q e => (R0.out.lt q e).1))
                          have R1 := Lib.hid oz
                          clear oz gz R0 E1
                          refine hK.out _ _ E2.out (fun _ => ?_)
                          clear hK KK
                          try simp only [Act.put, tS1, tS2, tS3]
                          refine tkO 10 (fun KK hK => ?_)
                          rw [if_pos (by rfl)]
                          refine wpG_one (.tmp 182) rfl a b v rfl ?_
                          intro Y28x3 hm hy
                          have qb2 := hm.lt
                          have MB := Lib.hid hm
                          replace R1 := Lib.hid (row_under2 R1.out hy)
                          have E3 := Lib.hid (E2.out.trans (hy.mono E2.out.size))
                          clear hm hy E2
                          refine hK.out _ _ E3.out (fun _ => ?_)
                          clear hK KK
                          try simp only [Act.put, tS1, tS2, tS3]
                          refine tkO 11 (fun KK hK => ?_)
                          rw [if_pos (by rfl)]
                          refine wpG_apps (.tmp 177) (.tmp 183) rfl (V5.heap.size) v1 (0 + 0) ([] ++ []) rfl R1.out (some ⟨Y28x2.heap.size, 0, none⟩) 1 1 [Value.int .i64 a, .int .i64 b, .int .i64 v] rfl (rd3_blk MB.out) (fun e => by cases e) (three_ints a b v) (by omega) E3.out.size ?_
                          intro v2 Y28x4 oz gz
                          have E4 := Lib.hid (E3.out.grown gz E3.out.size (fun q e => (R1.out.lt q e).1))
                          have R2 := Lib.hid oz
                          clear oz gz R1 MB E3
                          refine hK.out _ _ E4.out (fun _ => ?_)
                          clear hK KK
                          try simp only [Act.put, tS1, tS2, tS3]
                          refine tkO 15 (fun KK hK => ?_)
                          rw [if_pos (by rfl)]
                          refine wpG_apps (.tmp 184) (.tmp 187) rfl (V5.heap.size) v2 ((0 + 0) + 1) (([] ++ []) ++ [Value.int .i64 a, .int .i64 b, .int .i64 v]) rfl R2.out none 0 0 [] rfl (rd3_nil _) (fun _ => rfl) (fun u hu => absurd hu List.not_mem_nil) (by omega) E4.out.size ?_
                          intro v3 Y28x5 oz gz
                          have E5 := Lib.hid (E4.out.grown gz E4.out.size (fun q e => (R2.out.lt q e).1))
                          have R3 := Lib.hid oz
                          clear oz gz R2 E4
                          refine hK.out _ _ E5.out (fun _ => ?_)
                          clear hK KK
                          try simp only [Act.put, tS1, tS2, tS3]
                          refine tkA 16 (?_) ?_ E5.out ?_
                          rotate_left
                          · (intro w1 hS; go_simp; try with_reducible rfl)
                          simp only [Act.put, tS1, tS2, tS3]
                          refine wpAnyH_done (by kernel_rfl) ?_ _
                          have R4 := Lib.hid R3.out
                          have A6 : Hid (AS B st sz bw (ptP st sz c a b (some v)) v3 w Y28x5) := ⟨G5.out.belowB E5.out (by omega), own_low2 hB5 (by rw [S1.out, S2.out]; rw [HLE.out]; exact R4.out), K5.out.trans (E5.out.mono (by have := H1.out; omega)), wf_put F5.out (fun u h => by cases h; exact WV.out), Nat.le_trans hB5 E5.out.size, H1.out, hBb⟩
                          have P6 := Lib.hid (PB.out.below E5.out hAl5)
                          clear R4 R3 E5
                          go_wp2
                          go_meet
                          exact ⟨_, A6, P6⟩
                        · rw [if_pos (by rfl)]
                          refine wpG_one (.tmp 182) rfl a b v rfl ?_
                          intro Y28x2 hm hy
                          have qb1 := hm.lt
                          have MB := Lib.hid hm
                          replace R0 := Lib.hid (row_under2 R0.out hy)
                          have E2 := Lib.hid (E1.out.trans (hy.mono E1.out.size))
                          clear hm hy E1
                          refine hK.out _ _ E2.out (fun _ => ?_)
                          clear hK KK
                          try simp only [Act.put, tS1, tS2, tS3]
                          refine tkO 4 (fun KK hK => ?_)
                          rw [if_pos (by rfl)]
                          refine wpG_apps (.tmp 173) (.tmp 176) rfl (V5.heap.size) (.slice (some ⟨Y28x0.heap.size, 0, none⟩) 0 0) 0 [] rfl R0.out none 0 0 [] rfl (rd3_nil _) (fun _ => rfl) (fun u hu => absurd hu List.not_mem_nil) (by omega) E2.out.size ?_
                          intro v1 Y28x3 oz gz
                          have mb := gz.block Y28x1.heap.size MB.out.lt (fun e => by simp [Value.ownBlock] at e; omega)
                          replace MB := Lib.hid (show Blk _ _ _ _ from mb.trans MB.out)
                          clear mb
                          have E3 := Lib.hid (E2.out.grown gz E2.out.size (fun q e => (R0.out.lt q e).1))
                          have R1 := Lib.hid oz
                          clear oz gz R0 E2
                          refine hK.out _ _ E3.out (fun _ => ?_)
                          clear hK KK
                          try simp only [Act.put, tS1, tS2, tS3]
                          refine tkO 11 (fun KK hK => ?_)
                          rw [if_pos (by rfl)]
                          refine wpG_apps (.tmp 177) (.tmp 183) rfl (V5.heap.size) v1 (0 + 0) ([] ++ []) rfl R1.out (some ⟨Y28x1.heap.size, 0, none⟩) 1 1 [Value.int .i64 a, .int .i64 b, .int .i64 v] rfl (rd3_blk MB.out) (fun e => by cases e) (three_ints a b v) (by omega) E3.out.size ?_
                          intro v2 Y28x4 oz gz
                          have E4 := Lib.hid (E3.out.grown gz E3.out.size (fun q e => (R1.out.lt q e).1))
                          have R2 := Lib.hid oz
                          clear oz gz R1 MB E3
                          refine hK.out _ _ E4.out (fun _ => ?_)
                          clear hK KK
                          try simp only [Act.put, tS1, tS2, tS3]
                          refine tkO 15 (fun KK hK => ?_)
                          rw [if_pos (by rfl)]
                          refine wpG_apps (.tmp 184) (.tmp 187) rfl (V5.heap.size) v2 ((0 + 0) + 1) (([] ++ []) ++ [Value.int .i64 a, .int .i64 b, .int .i64 v]) rfl R2.out none 0 0 [] rfl (rd3_nil _) (fun _ => rfl) (fun u hu => absurd hu List.not_mem_nil) (by omega) E4.out.size ?_
                          intro v3 Y28x5 oz gz
                          have E5 := Lib.hid (E4.out.grown gz E4.out.size (fun q e => (R2.out.lt q e).1))
                          have R3 := Lib.hid oz
                          clear oz gz R2 E4
                          refine hK.out _ _ E5.out (fun _ => ?_)
                          clear hK KK
                          try simp only [Act.put, tS1, tS2, tS3]
                          refine tkA 16 (?_) ?_ E5.out ?_
                          rotate_left
                          · (intro w1 hS; go_simp; try with_reducible rfl)
                          simp only [Act.put, tS1, tS2, tS3]
                          refine wpAnyH_done (by kernel_rfl) ?_ _
                          have R4 := Lib.hid R3.out
                          have A6 : Hid (AS B st sz bw (ptP st sz c a b (some v)) v3 w Y28x5) := ⟨G5.out.belowB E5.out (by omega), own_low2 hB5 (by rw [S1.out, S2.out]; rw [HLE.out]; exact R4.out), K5.out.trans (E5.out.mono (by have := H1.out; omega)), wf_put F5.out (fun u h => by cases h; exact WV.out), Nat.le_trans hB5 E5.out.size, H1.out, hBb⟩
                          have P6 := Lib.hid (PB.out.below E5.out hAl5)
                          clear R4 R3 E5
                          go_wp2
                          go_meet
                          exact ⟨_, A6, P6⟩
                      · rw [if_pos (by rfl)]
                        refine wpG_one (.tmp 182) rfl a b v rfl ?_
                        intro Y28x1 hm hy
                        have qb0 := hm.lt
                        have MB := Lib.hid hm
                        have E1 := Lib.hid (E0.out.trans (hy.mono E0.out.size))
                        clear hm hy E0
                        refine hK.out _ _ E1.out (fun _ => ?_)
                        clear hK KK
                        try simp only [Act.put, tS1, tS2, tS3]
                        refine tkO 0 (fun KK hK => ?_)
                        go_simp
                        have hr := own_none3 Y28x1 35
                        have hy := (Below.refl Y28x1.heap.size Y28x1).alloc (Nat.le_refl _) (.cells #[] 35)
                        generalize Y28x1.alloc (.cells #[] 35) = Y28x2 at hr hy ⊢
                        have qs1 : Y28x1.heap.size < Y28x2.heap.size := (hr.lt _ rfl).2
                        have R0 := Lib.hid (own_low2 (b1 := V5.heap.size) E1.out.size hr)
                        replace MB := Lib.hid (MB.out.below hy MB.out.lt)
                        have E2 := Lib.hid (E1.out.trans (hy.mono E1.out.size))
                        clear hr hy E1
                        refine hK.out _ _ E2.out (fun _ => ?_)
                        clear hK KK
                        try simp only [Act.put, tS1, tS2, tS3]
                        refine tkO 4 (fun KK hK => ?_)
                        rw [if_pos (by rfl)]
                        refine wpG_apps (.tmp 173) (.tmp 176) rfl (V5.heap.size) (.slice (some ⟨Y28x1.heap.size, 0, none⟩) 0 0) 0 [] rfl R0.out none 0 0 [] rfl (rd3_nil _) (fun _ => rfl) (fun u hu => absurd hu List.not_mem_nil) (by omega) E2.out.size ?_
                        intro v1 Y28x3 oz gz
                        have mb := gz.block Y28x0.heap.size MB.out.lt (fun e => by simp [Value.ownBlock] at e; omega)
                        replace MB := Lib.hid (show Blk _ _ _ _ from mb.trans MB.out)
                        clear mb
                        have E3 := Lib.hid (E2.out.grown gz E2.out.size (fun q e => (R0.out.lt q e).1))
                        have R1 := Lib.hid oz
                        clear oz gz R0 E2
                        refine hK.out _ _ E3.out (fun _ => ?_)
                        clear hK KK
                        try simp only [Act.put, tS1, tS2, tS3]
                        refine tkO 11 (fun KK hK => ?_)
                        rw [if_pos (by rfl)]
                        refine wpG_apps (.tmp 177) (.tmp 183) rfl (V5.heap.size) v1 (0 + 0) ([] ++ []) rfl R1.out (some ⟨Y28x0.heap.size, 0, none⟩) 1 1 [Value.int .i64 a, .int .i64 b, .int .i64 v] rfl (rd3_blk MB.out) (fun e => by cases e) (three_ints a b v) (by omega) E3.out.size ?_
                        intro v2 Y28x4 oz gz
                        have E4 := Lib.hid (E3.out.grown gz E3.out.size (fun q e => (R1.out.lt q e).1))
                        have R2 := Lib.hid oz
                        clear oz gz R1 MB E3
                        refine hK.out _ _ E4.out (fun _ => ?_)
                        clear hK KK
                        try simp only [Act.put, tS1, tS2, tS3]
                        refine tkO 15 (fun KK hK => ?_)
                        rw [if_pos (by rfl)]
                        refine wpG_apps (.tmp 184) (.tmp 187) rfl (V5.heap.size) v2 ((0 + 0) + 1) (([] ++ []) ++ [Value.int .i64 a, .int .i64 b, .int .i64 v]) rfl R2.out none 0 0 [] rfl (rd3_nil _) (fun _ => rfl) (fun u hu => absurd hu List.not_mem_nil) (by omega) E4.out.size ?_
                        intro v3 Y28x5 oz gz
                        have E5 := Lib.hid (E4.out.grown gz E4.out.size (fun q e => (R2.out.lt q e).1))
                        have R3 := Lib.hid oz
                        clear oz gz R2 E4
                        refine hK.out _ _ E5.out (fun _ => ?_)
                        clear hK KK
                        try simp only [Act.put, tS1, tS2, tS3]
                        refine tkA 16 (?_) ?_ E5.out ?_
                        rotate_left
                        · (intro w1 hS; go_simp; try with_reducible rfl)
                        simp only [Act.put, tS1, tS2, tS3]
                        refine wpAnyH_done (by kernel_rfl) ?_ _
                        have R4 := Lib.hid R3.out
                        have A6 : Hid (AS B st sz bw (ptP st sz c a b (some v)) v3 w Y28x5) := ⟨G5.out.belowB E5.out (by omega), own_low2 hB5 (by rw [S1.out, S2.out]; rw [HLE.out]; exact R4.out), K5.out.trans (E5.out.mono (by have := H1.out; omega)), wf_put F5.out (fun u h => by cases h; exact WV.out), Nat.le_trans hB5 E5.out.size, H1.out, hBb⟩
                        have P6 := Lib.hid (PB.out.below E5.out hAl5)
                        clear R4 R3 E5
                        go_wp2
                        go_meet
                        exact ⟨_, A6, P6⟩
                    · as_aux_lemma =>
                      simp only [Value.slice.injEq] at h1
                      obtain ⟨h1a, -, h1c⟩ := h1
                      subst h1c
                      subst h1a
                      obtain ⟨P2, hP2⟩ : ∃ x, x = (if cw = q then some (⟨gW, 0, none⟩ : Addr) else some ⟨gW, 0 + q * 3, none⟩) := ⟨_, rfl⟩
                      have hr2 := (Rd3.own V6.out).back q hq1
                      rw [← hP2] at hr2
                      have HR2 := Lib.hid hr2
                      have HP3 : Hid (P2 = none → cw - q = 0) := by
                        show P2 = none → cw - q = 0
                        rw [hP2]; split <;> intro h <;> cases h
                      rw [Nat.zero_add] at hP2
                      have HP2 := Lib.hid hP2
                      clear hr2 hP2
                      go_upto_region 28 with fail
                      have hlow : V5.heap.size ≤ V5.heap.size := Nat.le_refl _
                      refine wp_region_held (S := (fun w' : World => Below (V5.heap.size) V5 w')) (by kernel_rfl) ?_
                      change wpAnyH _ _ _ _ _ _ _ _ V5.drew
                      have hE0 : Below (V5.heap.size) V5 V5.drew := (Below.refl _ _).drew
                      generalize V5.drew = Y28x0 at hE0 ⊢
                      have E0 := Lib.hid hE0
                      clear hE0
                      refine tkA 1 (?_) ?_ E0.out ?_
                      rotate_left
                      · (intro w1 hS; go_simp; try with_reducible rfl)
                      simp only [Act.put, tS1, tS2, tS3]
                      refine tkA 2 (?_) ?_ E0.out ?_
                      rotate_left
                      · (intro w1 hS; go_simp; try with_reducible rfl)
                      simp only [Act.put, tS1, tS2, tS3]
                      refine tkA 3 (?_) ?_ E0.out ?_
                      rotate_left
                      · (intro w1 hS; have hW := hS; have q : (q : Int) ≤ (cw : Int) := (by omega); clear hW hS; go_simp; try with_reducible rfl)
                      simp only [Act.put, tS1, tS2, tS3]
                      refine tkA 5 (?_) ?_ E0.out ?_
                      rotate_left
                      · (intro w1 hS; go_simp; try with_reducible rfl)
                      simp only [Act.put, tS1, tS2, tS3]
                      refine tkA 6 (?_) ?_ E0.out ?_
                      rotate_left
                      · (intro w1 hS; have hW := hS; have pq := PB.out.below hW hAl5; have q1 : w1.cell? ⟨gA, 1, none⟩ = some (.int .i64 a) := pq.cell 1; have q2 : w1.cell? ⟨gA, 2, none⟩ = some (.int .i64 b) := pq.cell 2; have q3 : w1.cell? ⟨gA, 3, none⟩ = some (.int .i64 v) := pq.cell 3; clear pq; clear hW hS; go_simp; try with_reducible rfl)
                      simp only [Act.put, tS1, tS2, tS3]
                      refine tkA 7 (?_) ?_ E0.out ?_
                      rotate_left
                      · (intro w1 hS; go_simp; try with_reducible rfl)
                      simp only [Act.put, tS1, tS2, tS3]
                      refine tkA 8 (?_) ?_ E0.out ?_
                      rotate_left
                      · (intro w1 hS; have hW := hS; have pq := PB.out.below hW hAl5; have q1 : w1.cell? ⟨gA, 1, none⟩ = some (.int .i64 a) := pq.cell 1; have q2 : w1.cell? ⟨gA, 2, none⟩ = some (.int .i64 b) := pq.cell 2; have q3 : w1.cell? ⟨gA, 3, none⟩ = some (.int .i64 v) := pq.cell 3; clear pq; clear hW hS; go_simp; try with_reducible rfl)
                      simp only [Act.put, tS1, tS2, tS3]
                      refine tkA 9 (.agg #[.int .i64 a, .int .i64 b, .int .i64 v]) ?_ E0.out ?_
                      · (intro w1 hS; exact exec_build 35 _ rfl #[(0, .agg #[.int .i64 a, .int .i64 b]), (1, .int .i64 v)] (by kernel_rfl) #[.int .i64 a, .int .i64 b, .int .i64 v] (built35 _ _ _))
                      simp only [Act.put, tS1, tS2, tS3]
                      refine tkA 12 (?_) ?_ E0.out ?_
                      rotate_left
                      · (intro w1 hS; go_simp; try with_reducible rfl)
                      simp only [Act.put, tS1, tS2, tS3]
                      refine tkA 13 (?_) ?_ E0.out ?_
                      rotate_left
                      · (intro w1 hS; go_simp; try with_reducible rfl)
                      simp only [Act.put, tS1, tS2, tS3]
                      refine tkA 14 (?_) ?_ E0.out ?_
                      rotate_left
                      · (intro w1 hS; have hW := hS; have q : (q : Int) ≤ (n : Int) := (by omega); have q2 := HP2.out.symm; clear hW hS; go_simp; try with_reducible rfl)
                      simp only [Act.put, tS1, tS2, tS3]
                      refine wpAnyH_ready (rs := [0, 10]) (by kernel_rfl) (by simp) ?_
                      refine AllReadyH.cons (o := { dst := some 173, op := Op.buildSlice 28 0 #[], type := 28, pos := "law.go:88", after := #[], guard := none }) rfl (fun KK hK => ?_) (AllReadyH.cons (o := { dst := some 183, op := Op.buildSlice 28 1 #[(0, Operand.tmp 182)], type := 28, pos := "law.go:88", after := #[{ on := 9, ground := Ground.data }], guard := none }) rfl (fun KK hK => ?_) AllReadyH.nil)
                      · go_simp
                        have hr := own_none3 Y28x0 35
                        have hy := (Below.refl Y28x0.heap.size Y28x0).alloc (Nat.le_refl _) (.cells #[] 35)
                        generalize Y28x0.alloc (.cells #[] 35) = Y28x1 at hr hy ⊢
                        have qs0 : Y28x0.heap.size < Y28x1.heap.size := (hr.lt _ rfl).2
                        have R0 := Lib.hid (own_low2 (b1 := V5.heap.size) E0.out.size hr)
                        have E1 := Lib.hid (E0.out.trans (hy.mono E0.out.size))
                        clear hr hy E0
                        refine hK.out _ _ E1.out (fun _ => ?_)
                        clear hK KK
                        try simp only [Act.put, tS1, tS2, tS3]
                        refine wpAnyH_ready (rs := [4, 10]) (by kernel_rfl) (by simp) ?_
                        refine AllReadyH.cons (o := { dst := some 177, op := Op.call { callee := Callee.builtin Builtin.append, args := #[Operand.tmp 173, Operand.tmp 176], argTypes := #[28, 28] }, type := 28, pos := "law.go:88", after := #[{ on := 0, ground := Ground.data }, { on := 3, ground := Ground.data }], guard := none }) rfl (fun KK hK => ?_) (AllReadyH.cons (o := { dst := some 183, op := Op.buildSlice 28 1 #[(0, Operand.tmp 182)], type := 28, pos := "law.go:88", after := #[{ on := 9, ground := Ground.data }], guard := none }) rfl (fun KK hK => ?_) AllReadyH.nil)
                        · rw [if_pos (by rfl)]
                          refine wpG_apps (.tmp 173) (.tmp 176) rfl (V5.heap.size) (.slice (some ⟨Y28x0.heap.size, 0, none⟩) 0 0) 0 [] rfl R0.out (some ⟨gW, 0, none⟩) q cw ((icells sz L).take (q * 3)) rfl (((Rd3.own V6.out).below E1.out).front q hq1) (fun e => by cases e) (take_ints HIC.out _) (by omega) E1.out.size ?_
                          intro v1 Y28x2 oz gz
                          have E2 := Lib.hid (E1.out.grown gz E1.out.size (fun q e => (R0.out.lt q e).1))
                          have R1 := Lib.hid oz
                          clear oz gz R0 E1
                          refine hK.out _ _ E2.out (fun _ => ?_)
                          clear hK KK
                          try simp only [Act.put, tS1, tS2, tS3]
                          refine tkO 10 (fun KK hK => ?_)
                          rw [if_pos (by rfl)]
                          refine wpG_one (.tmp 182) rfl a b v rfl ?_
                          intro Y28x3 hm hy
                          have qb2 := hm.lt
                          have MB := Lib.hid hm
                          replace R1 := Lib.hid (row_under2 R1.out hy)
                          have E3 := Lib.hid (E2.out.trans (hy.mono E2.out.size))
                          clear hm hy E2
                          refine hK.out _ _ E3.out (fun _ => ?_)
                          clear hK KK
                          try simp only [Act.put, tS1, tS2, tS3]
                          refine tkO 11 (fun KK hK => ?_)
                          rw [if_pos (by rfl)]
                          refine wpG_apps (.tmp 177) (.tmp 183) rfl (V5.heap.size) v1 (0 + q) ([] ++ (icells sz L).take (q * 3)) rfl R1.out (some ⟨Y28x2.heap.size, 0, none⟩) 1 1 [Value.int .i64 a, .int .i64 b, .int .i64 v] rfl (rd3_blk MB.out) (fun e => by cases e) (three_ints a b v) (by omega) E3.out.size ?_
                          intro v2 Y28x4 oz gz
                          have E4 := Lib.hid (E3.out.grown gz E3.out.size (fun q e => (R1.out.lt q e).1))
                          have R2 := Lib.hid oz
                          clear oz gz R1 MB E3
                          refine hK.out _ _ E4.out (fun _ => ?_)
                          clear hK KK
                          try simp only [Act.put, tS1, tS2, tS3]
                          refine tkO 15 (fun KK hK => ?_)
                          rw [if_pos (by rfl)]
                          refine wpG_apps (.tmp 184) (.tmp 187) rfl (V5.heap.size) v2 ((0 + q) + 1) (([] ++ (icells sz L).take (q * 3)) ++ [Value.int .i64 a, .int .i64 b, .int .i64 v]) rfl R2.out P2 (n - q) (cw - q) ((icells sz L).drop (q * 3)) rfl (HR2.out.below E4.out) HP3.out (drop_ints HIC.out _) (by omega) E4.out.size ?_
                          intro v3 Y28x5 oz gz
                          have E5 := Lib.hid (E4.out.grown gz E4.out.size (fun q e => (R2.out.lt q e).1))
                          have R3 := Lib.hid oz
                          clear oz gz R2 E4
                          refine hK.out _ _ E5.out (fun _ => ?_)
                          clear hK KK
                          try simp only [Act.put, tS1, tS2, tS3]
                          refine tkA 16 (?_) ?_ E5.out ?_
                          rotate_left
                          · (intro w1 hS; go_simp; try with_reducible rfl)
                          simp only [Act.put, tS1, tS2, tS3]
                          refine wpAnyH_done (by kernel_rfl) ?_ _
                          have R4 := Lib.hid R3.out
                          have A6 : Hid (AS B st sz bw (ptP st sz c a b (some v)) v3 w Y28x5) := ⟨G5.out.belowB E5.out (by omega), own_low2 hB5 (by rw [S1.out, S2.out]; simpa only [Nat.zero_add, List.nil_append] using R4.out), K5.out.trans (E5.out.mono (by have := H1.out; omega)), wf_put F5.out (fun u h => by cases h; exact WV.out), Nat.le_trans hB5 E5.out.size, H1.out, hBb⟩
                          have P6 := Lib.hid (PB.out.below E5.out hAl5)
                          clear R4 R3 E5
                          go_wp2
                          go_meet
                          exact ⟨_, A6, P6⟩
                        · rw [if_pos (by rfl)]
                          refine wpG_one (.tmp 182) rfl a b v rfl ?_
                          intro Y28x2 hm hy
                          have qb1 := hm.lt
                          have MB := Lib.hid hm
                          replace R0 := Lib.hid (row_under2 R0.out hy)
                          have E2 := Lib.hid (E1.out.trans (hy.mono E1.out.size))
                          clear hm hy E1
                          refine hK.out _ _ E2.out (fun _ => ?_)
                          clear hK KK
                          try simp only [Act.put, tS1, tS2, tS3]
                          refine tkO 4 (fun KK hK => ?_)
                          rw [if_pos (by rfl)]
                          refine wpG_apps (.tmp 173) (.tmp 176) rfl (V5.heap.size) (.slice (some ⟨Y28x0.heap.size, 0, none⟩) 0 0) 0 [] rfl R0.out (some ⟨gW, 0, none⟩) q cw ((icells sz L).take (q * 3)) rfl (((Rd3.own V6.out).below E2.out).front q hq1) (fun e => by cases e) (take_ints HIC.out _) (by omega) E2.out.size ?_
                          intro v1 Y28x3 oz gz
                          have mb := gz.block Y28x1.heap.size MB.out.lt (fun e => by simp [Value.ownBlock] at e; omega)
                          replace MB := Lib.hid (show Blk _ _ _ _ from mb.trans MB.out)
                          clear mb
                          have E3 := Lib.hid (E2.out.grown gz E2.out.size (fun q e => (R0.out.lt q e).1))
                          have R1 := Lib.hid oz
                          clear oz gz R0 E2
                          refine hK.out _ _ E3.out (fun _ => ?_)
                          clear hK KK
                          try simp only [Act.put, tS1, tS2, tS3]
                          refine tkO 11 (fun KK hK => ?_)
                          rw [if_pos (by rfl)]
                          refine wpG_apps (.tmp 177) (.tmp 183) rfl (V5.heap.size) v1 (0 + q) ([] ++ (icells sz L).take (q * 3)) rfl R1.out (some ⟨Y28x1.heap.size, 0, none⟩) 1 1 [Value.int .i64 a, .int .i64 b, .int .i64 v] rfl (rd3_blk MB.out) (fun e => by cases e) (three_ints a b v) (by omega) E3.out.size ?_
                          intro v2 Y28x4 oz gz
                          have E4 := Lib.hid (E3.out.grown gz E3.out.size (fun q e => (R1.out.lt q e).1))
                          have R2 := Lib.hid oz
                          clear oz gz R1 MB E3
                          refine hK.out _ _ E4.out (fun _ => ?_)
                          clear hK KK
                          try simp only [Act.put, tS1, tS2, tS3]
                          refine tkO 15 (fun KK hK => ?_)
                          rw [if_pos (by rfl)]
                          refine wpG_apps (.tmp 184) (.tmp 187) rfl (V5.heap.size) v2 ((0 + q) + 1) (([] ++ (icells sz L).take (q * 3)) ++ [Value.int .i64 a, .int .i64 b, .int .i64 v]) rfl R2.out P2 (n - q) (cw - q) ((icells sz L).drop (q * 3)) rfl (HR2.out.below E4.out) HP3.out (drop_ints HIC.out _) (by omega) E4.out.size ?_
                          intro v3 Y28x5 oz gz
                          have E5 := Lib.hid (E4.out.grown gz E4.out.size (fun q e => (R2.out.lt q e).1))
                          have R3 := Lib.hid oz
                          clear oz gz R2 E4
                          refine hK.out _ _ E5.out (fun _ => ?_)
                          clear hK KK
                          try simp only [Act.put, tS1, tS2, tS3]
                          refine tkA 16 (?_) ?_ E5.out ?_
                          rotate_left
                          · (intro w1 hS; go_simp; try with_reducible rfl)
                          simp only [Act.put, tS1, tS2, tS3]
                          refine wpAnyH_done (by kernel_rfl) ?_ _
                          have R4 := Lib.hid R3.out
                          have A6 : Hid (AS B st sz bw (ptP st sz c a b (some v)) v3 w Y28x5) := ⟨G5.out.belowB E5.out (by omega), own_low2 hB5 (by rw [S1.out, S2.out]; simpa only [Nat.zero_add, List.nil_append] using R4.out), K5.out.trans (E5.out.mono (by have := H1.out; omega)), wf_put F5.out (fun u h => by cases h; exact WV.out), Nat.le_trans hB5 E5.out.size, H1.out, hBb⟩
                          have P6 := Lib.hid (PB.out.below E5.out hAl5)
                          clear R4 R3 E5
                          go_wp2
                          go_meet
                          exact ⟨_, A6, P6⟩
                      · rw [if_pos (by rfl)]
                        refine wpG_one (.tmp 182) rfl a b v rfl ?_
                        intro Y28x1 hm hy
                        have qb0 := hm.lt
                        have MB := Lib.hid hm
                        have E1 := Lib.hid (E0.out.trans (hy.mono E0.out.size))
                        clear hm hy E0
                        refine hK.out _ _ E1.out (fun _ => ?_)
                        clear hK KK
                        try simp only [Act.put, tS1, tS2, tS3]
                        refine tkO 0 (fun KK hK => ?_)
                        go_simp
                        have hr := own_none3 Y28x1 35
                        have hy := (Below.refl Y28x1.heap.size Y28x1).alloc (Nat.le_refl _) (.cells #[] 35)
                        generalize Y28x1.alloc (.cells #[] 35) = Y28x2 at hr hy ⊢
                        have qs1 : Y28x1.heap.size < Y28x2.heap.size := (hr.lt _ rfl).2
                        have R0 := Lib.hid (own_low2 (b1 := V5.heap.size) E1.out.size hr)
                        replace MB := Lib.hid (MB.out.below hy MB.out.lt)
                        have E2 := Lib.hid (E1.out.trans (hy.mono E1.out.size))
                        clear hr hy E1
                        refine hK.out _ _ E2.out (fun _ => ?_)
                        clear hK KK
                        try simp only [Act.put, tS1, tS2, tS3]
                        refine tkO 4 (fun KK hK => ?_)
                        rw [if_pos (by rfl)]
                        refine wpG_apps (.tmp 173) (.tmp 176) rfl (V5.heap.size) (.slice (some ⟨Y28x1.heap.size, 0, none⟩) 0 0) 0 [] rfl R0.out (some ⟨gW, 0, none⟩) q cw ((icells sz L).take (q * 3)) rfl (((Rd3.own V6.out).below E2.out).front q hq1) (fun e => by cases e) (take_ints HIC.out _) (by omega) E2.out.size ?_
                        intro v1 Y28x3 oz gz
                        have mb := gz.block Y28x0.heap.size MB.out.lt (fun e => by simp [Value.ownBlock] at e; omega)
                        replace MB := Lib.hid (show Blk _ _ _ _ from mb.trans MB.out)
                        clear mb
                        have E3 := Lib.hid (E2.out.grown gz E2.out.size (fun q e => (R0.out.lt q e).1))
                        have R1 := Lib.hid oz
                        clear oz gz R0 E2
                        refine hK.out _ _ E3.out (fun _ => ?_)
                        clear hK KK
                        try simp only [Act.put, tS1, tS2, tS3]
                        refine tkO 11 (fun KK hK => ?_)
                        rw [if_pos (by rfl)]
                        refine wpG_apps (.tmp 177) (.tmp 183) rfl (V5.heap.size) v1 (0 + q) ([] ++ (icells sz L).take (q * 3)) rfl R1.out (some ⟨Y28x0.heap.size, 0, none⟩) 1 1 [Value.int .i64 a, .int .i64 b, .int .i64 v] rfl (rd3_blk MB.out) (fun e => by cases e) (three_ints a b v) (by omega) E3.out.size ?_
                        intro v2 Y28x4 oz gz
                        have E4 := Lib.hid (E3.out.grown gz E3.out.size (fun q e => (R1.out.lt q e).1))
                        have R2 := Lib.hid oz
                        clear oz gz R1 MB E3
                        refine hK.out _ _ E4.out (fun _ => ?_)
                        clear hK KK
                        try simp only [Act.put, tS1, tS2, tS3]
                        refine tkO 15 (fun KK hK => ?_)
                        rw [if_pos (by rfl)]
                        refine wpG_apps (.tmp 184) (.tmp 187) rfl (V5.heap.size) v2 ((0 + q) + 1) (([] ++ (icells sz L).take (q * 3)) ++ [Value.int .i64 a, .int .i64 b, .int .i64 v]) rfl R2.out P2 (n - q) (cw - q) ((icells sz L).drop (q * 3)) rfl (HR2.out.below E4.out) HP3.out (drop_ints HIC.out _) (by omega) E4.out.size ?_
                        intro v3 Y28x5 oz gz
                        have E5 := Lib.hid (E4.out.grown gz E4.out.size (fun q e => (R2.out.lt q e).1))
                        have R3 := Lib.hid oz
                        clear oz gz R2 E4
                        refine hK.out _ _ E5.out (fun _ => ?_)
                        clear hK KK
                        try simp only [Act.put, tS1, tS2, tS3]
                        refine tkA 16 (?_) ?_ E5.out ?_
                        rotate_left
                        · (intro w1 hS; go_simp; try with_reducible rfl)
                        simp only [Act.put, tS1, tS2, tS3]
                        refine wpAnyH_done (by kernel_rfl) ?_ _
                        have R4 := Lib.hid R3.out
                        have A6 : Hid (AS B st sz bw (ptP st sz c a b (some v)) v3 w Y28x5) := ⟨G5.out.belowB E5.out (by omega), own_low2 hB5 (by rw [S1.out, S2.out]; simpa only [Nat.zero_add, List.nil_append] using R4.out), K5.out.trans (E5.out.mono (by have := H1.out; omega)), wf_put F5.out (fun u h => by cases h; exact WV.out), Nat.le_trans hB5 E5.out.size, H1.out, hBb⟩
                        have P6 := Lib.hid (PB.out.below E5.out hAl5)
                        clear R4 R3 E5
                        go_wp2
                        go_meet
                        exact ⟨_, A6, P6⟩
              · as_aux_lemma =>
                have e1 : (kd == 1) = false := by rw [beq_eq_false_iff_ne]; exact k1
                by_cases k2 : kd = 2
                · as_aux_lemma =>
                  have e2 : (kd == 2) = true := by rw [beq_iff_eq]; exact k2
                  have CF := Lib.hid (fun W h => freeI_any B st sz c a b W h)
                  rw [← HO.out, ← HHS.out] at CF
                  unfold plA at CF
                  clear k1 k2 hib
                  have pc0 : wc.cell? ⟨gA, 0, none⟩ = some (.int .i64 kd) := PB.out.cell 0
                  have pc1 : wc.cell? ⟨gA, 1, none⟩ = some (.int .i64 a) := PB.out.cell 1
                  have pc2 : wc.cell? ⟨gA, 2, none⟩ = some (.int .i64 b) := PB.out.cell 2
                  have pc3 : wc.cell? ⟨gA, 3, none⟩ = some (.int .i64 v) := PB.out.cell 3
                  go_wp2_with fail
                  clear pc0 pc1 pc2 pc3
                  refine (CF.out wc A3.out.G).mono ?_
                  rintro e V5 ⟨rfl, hg, ha⟩
                  have G5 := Lib.hid hg
                  have V5r := Lib.hid (row_apart A3.out.V ha (by omega))
                  have K5 := Lib.hid (A3.out.K.trans (ha.below A3.out.h1 A3.out.K.size))
                  have B5 := Lib.hid (Nat.le_trans A3.out.b ha.size)
                  replace PB := Lib.hid (ha.blk PB.out (.inr (by omega)))
                  have H1 := Lib.hid A3.out.h1
                  have F5 := Lib.hid A3.out.F
                  clear hg ha CF A3
                  cases hs with
                  | false =>
                    have hlk : lkP st sz c a b = none := by
                      rw [← HO.out]
                      have := HHS.out
                      cases o with
                      | none => rfl
                      | some u => cases this
                    have hpt := act_keep st sz c a b hlk
                    have A6 : Hid (AS B st sz bw c (.slice aw n cw) w V5) := ⟨by rw [← hpt]; exact G5.out, V5r.out, K5.out, F5.out, B5.out, H1.out, hBb⟩
                    clear hpt hlk
                    go_wp2
                    go_meet
                    exact ⟨_, A6, PB⟩
                  | true =>
                    obtain ⟨u, hu⟩ := Option.isSome_iff_exists.1 HHS.out.symm
                    have hlk : lkP st sz c a b = some u := by rw [← HO.out]; exact hu
                    obtain ⟨k, t1, t2, t3, t4, t5, t6, t7⟩ := hit_item st sz c a b u hlk q (by rw [← HL.out]; exact HTW.out)
                    have hqn : q < (itF c 0 (st * sz)).length := (List.getElem?_eq_some_iff.1 t1).1
                    rw [← HL.out, ← HN.out] at hqn
                    obtain ⟨s1, s2⟩ := del_item st sz c a b u hlk q (by rw [← HL.out]; exact HTW.out)
                    rw [← HL.out, ← HN.out] at s1
                    rw [← HL.out] at s2
                    have S1 := Lib.hid s1
                    have S2 := Lib.hid s2
                    have V6 : Hid (V5.ownsRow bw 35 3 (.slice aw n cw) n (icells sz L)) := by
                      show World.ownsRow _ _ _ _ _ _ _
                      have := V5r.out
                      rw [← HL.out, ← HN.out] at this
                      exact this
                    have HIC := Lib.hid (icells_ints sz L)
                    have hAl5 := PB.out.lt
                    have hB5 := B5.out
                    have WQ := Lib.hid (show IntKind.i64.wrap ((q : Int) + 1) = ((q + 1 : Nat) : Int) by rw [IntKind.wrap_i64]; omega)
                    clear s1 s2 hlk hu V5r HO HHS t1 t2 t3 t4 t5 t6 t7
                    rcases row_two V6.out with ⟨h1, h2⟩ | ⟨gW, cap, cur, h1, h2, h3, -, -⟩
                    · exfalso; omega
                    · simp only [Value.slice.injEq] at h1
                      obtain ⟨h1a, -, h1c⟩ := h1
                      subst h1c
                      subst h1a
                      obtain ⟨P2, hP2⟩ : ∃ x, x = (if cw = q + 1 then some (⟨gW, 0, none⟩ : Addr) else some ⟨gW, 0 + (q + 1) * 3, none⟩) := ⟨_, rfl⟩
                      have hr2 := (Rd3.own V6.out).back (q + 1) hqn
                      rw [← hP2] at hr2
                      have HR2 := Lib.hid hr2
                      have HP3 : Hid (P2 = none → cw - (q + 1) = 0) := by
                        show P2 = none → cw - (q + 1) = 0
                        rw [hP2]; split <;> intro h <;> cases h
                      rw [Nat.zero_add] at hP2
                      have HP2 := Lib.hid hP2
                      clear hr2 hP2
                      go_upto_region 33 with fail
                      have hlow : V5.heap.size ≤ V5.heap.size := Nat.le_refl _
                      refine wp_region_held (S := (fun w' : World => Below (V5.heap.size) V5 w')) (by kernel_rfl) ?_
                      change wpAnyH _ _ _ _ _ _ _ _ V5.drew
                      have hE0 : Below (V5.heap.size) V5 V5.drew := (Below.refl _ _).drew
                      generalize V5.drew = Y33x0 at hE0 ⊢
                      have E0 := Lib.hid hE0
                      clear hE0
                      refine tkA 1 (?_) ?_ E0.out ?_
                      rotate_left
                      · (intro w1 hS; go_simp; try with_reducible rfl)
                      simp only [Act.put, tS1, tS2, tS3]
                      refine tkA 2 (?_) ?_ E0.out ?_
                      rotate_left
                      · (intro w1 hS; go_simp; try with_reducible rfl)
                      simp only [Act.put, tS1, tS2, tS3]
                      refine tkA 3 (?_) ?_ E0.out ?_
                      rotate_left
                      · (intro w1 hS; have hW := hS; have q : (q : Int) ≤ (cw : Int) := (by omega); clear hW hS; go_simp; try with_reducible rfl)
                      simp only [Act.put, tS1, tS2, tS3]
                      refine tkA 5 (?_) ?_ E0.out ?_
                      rotate_left
                      · (intro w1 hS; go_simp; try with_reducible rfl)
                      simp only [Act.put, tS1, tS2, tS3]
                      refine tkA 6 (?_) ?_ E0.out ?_
                      rotate_left
                      · (intro w1 hS; go_simp; try with_reducible rfl)
                      simp only [Act.put, tS1, tS2, tS3]
                      refine tkA 7 (?_) ?_ E0.out ?_
                      rotate_left
                      · (intro w1 hS; have hW := hS; have q := WQ.out; clear hW hS; go_simp; try with_reducible rfl)
                      simp only [Act.put, tS1, tS2, tS3]
                      refine tkA 8 (?_) ?_ E0.out ?_
                      rotate_left
                      · (intro w1 hS; have hW := hS; have q3 : 0 ≤ (q : Int) + 1 := (by omega); have q4 : (q : Int) + 1 ≤ (n : Int) := (by omega); have q2 := HP2.out.symm; clear hW hS; go_simp; try with_reducible rfl)
                      simp only [Act.put, tS1, tS2, tS3]
                      refine tkO 0 (fun KK hK => ?_)
                      go_simp
                      have hr := own_none3 Y33x0 35
                      have hy := (Below.refl Y33x0.heap.size Y33x0).alloc (Nat.le_refl _) (.cells #[] 35)
                      generalize Y33x0.alloc (.cells #[] 35) = Y33x1 at hr hy ⊢
                      have qs0 : Y33x0.heap.size < Y33x1.heap.size := (hr.lt _ rfl).2
                      have R0 := Lib.hid (own_low2 (b1 := V5.heap.size) E0.out.size hr)
                      have E1 := Lib.hid (E0.out.trans (hy.mono E0.out.size))
                      clear hr hy E0
                      refine hK.out _ _ E1.out (fun _ => ?_)
                      clear hK KK
                      try simp only [Act.put, tS1, tS2, tS3]
                      refine tkO 4 (fun KK hK => ?_)
                      rw [if_pos (by rfl)]
                      refine wpG_apps (.tmp 198) (.tmp 201) rfl (V5.heap.size) (.slice (some ⟨Y33x0.heap.size, 0, none⟩) 0 0) 0 [] rfl R0.out (some ⟨gW, 0, none⟩) q cw ((icells sz L).take (q * 3)) rfl (((Rd3.own V6.out).below E1.out).front q hq1) (fun e => by cases e) (take_ints HIC.out _) (by omega) E1.out.size ?_
                      intro v1 Y33x2 oz gz
                      have E2 := Lib.hid (E1.out.grown gz E1.out.size (fun q e => (R0.out.lt q e).1))
                      have R1 := Lib.hid oz
                      clear oz gz R0 E1
                      refine hK.out _ _ E2.out (fun _ => ?_)
                      clear hK KK
                      try simp only [Act.put, tS1, tS2, tS3]
                      refine tkO 9 (fun KK hK => ?_)
                      rw [if_pos (by rfl)]
                      refine wpG_apps (.tmp 202) (.tmp 206) rfl (V5.heap.size) v1 (0 + q) ([] ++ (icells sz L).take (q * 3)) rfl R1.out P2 (n - (q + 1)) (cw - (q + 1)) ((icells sz L).drop ((q + 1) * 3)) rfl (HR2.out.below E2.out) HP3.out (drop_ints HIC.out _) (by omega) E2.out.size ?_
                      intro v3 Y33x3 oz gz
                      have E3 := Lib.hid (E2.out.grown gz E2.out.size (fun q e => (R1.out.lt q e).1))
                      have R3 := Lib.hid oz
                      clear oz gz R1 E2
                      refine hK.out _ _ E3.out (fun _ => ?_)
                      clear hK KK
                      try simp only [Act.put, tS1, tS2, tS3]
                      refine tkA 10 (?_) ?_ E3.out ?_
                      rotate_left
                      · (intro w1 hS; go_simp; try with_reducible rfl)
                      simp only [Act.put, tS1, tS2, tS3]
                      refine wpAnyH_done (by kernel_rfl) ?_ _
                      have A6 : Hid (AS B st sz bw (ptP st sz c a b none) v3 w Y33x3) := ⟨G5.out.belowB E3.out (by omega), own_low2 hB5 (by rw [S1.out, S2.out]; simpa only [Nat.zero_add, List.nil_append] using R3.out), K5.out.trans (E3.out.mono (by have := H1.out; omega)), wf_put F5.out (fun u h => by cases h), Nat.le_trans hB5 E3.out.size, H1.out, hBb⟩
                      have P6 := Lib.hid (PB.out.below E3.out hAl5)
                      clear R3 E3
                      go_wp2
                      go_meet
                      exact ⟨_, A6, P6⟩
                · as_aux_lemma =>
                  have e2 : (kd == 2) = false := by rw [beq_eq_false_iff_ne]; exact k2
                  have CG := Lib.hid (fun W h => getI_any B st sz c a b W h)
                  rw [← HO.out] at CG
                  unfold plA at CG
                  clear k1 k2 hib hhb
                  cases o with
                  | some u =>
                    obtain rfl : hs = true := HHS.out
                    simp only [Option.getD_some, Option.isSome_some] at CG
                    have hlk : lkP st sz c a b = some u := HO.out.symm
                    obtain ⟨k, t1, t2, t3, t4, t5, t6, t7⟩ := hit_item st sz c a b u hlk q (by rw [← HL.out]; exact HTW.out)
                    have hqn : q < (itF c 0 (st * sz)).length := (List.getElem?_eq_some_iff.1 t1).1
                    rw [← HL.out, ← HN.out] at hqn
                    have hb3 : 0 ≤ (q : Int) ∧ (q : Int) < (n : Int) := by omega
                    have T1 := Lib.hid t1
                    clear t1 t2 t3 t4 t5 t6 t7 hlk hqn HO HHS
                    have pc0 : wc.cell? ⟨gA, 0, none⟩ = some (.int .i64 kd) := PB.out.cell 0
                    have pc1 : wc.cell? ⟨gA, 1, none⟩ = some (.int .i64 a) := PB.out.cell 1
                    have pc2 : wc.cell? ⟨gA, 2, none⟩ = some (.int .i64 b) := PB.out.cell 2
                    have pc3 : wc.cell? ⟨gA, 3, none⟩ = some (.int .i64 v) := PB.out.cell 3
                    go_wp2_with fail
                    clear pc0 pc1 pc2 pc3
                    refine (CG.out wc A3.out.G).mono ?_
                    rintro e V761 ⟨rfl, hy⟩
                    replace A3 := Lib.hid (A3.out.below hy)
                    replace PB := Lib.hid (PB.out.below hy PB.out.lt)
                    clear hy
                    have hv6 := A3.out.V
                    rw [← HL.out, ← HN.out] at hv6
                    rcases row_two hv6 with ⟨h1, h2⟩ | ⟨gW, cap, cur, h1, h2, h3, hWb, hcl⟩
                    · exfalso; omega
                    · simp only [Value.slice.injEq] at h1
                      obtain ⟨h1a, -, h1c⟩ := h1
                      subst h1c
                      subst h1a
                      have cw2 : V761.cell? ⟨gW, q * 3 + 2, none⟩ = some (.int .i64 u) := by
                        rw [hWb.cell]
                        have t1 := T1.out
                        rw [← HL.out] at t1
                        exact hcl _ _ ((icells_get sz _ q 2 _ t1 (by omega)).trans rfl)
                      clear hv6 hWb hcl T1
                      go_wp2
                      go_meet
                      exact ⟨_, A3, PB⟩
                  | none =>
                    obtain rfl : hs = false := HHS.out
                    simp only [Option.getD_none, Option.isSome_none] at CG
                    clear HO HHS
                    have pc0 : wc.cell? ⟨gA, 0, none⟩ = some (.int .i64 kd) := PB.out.cell 0
                    have pc1 : wc.cell? ⟨gA, 1, none⟩ = some (.int .i64 a) := PB.out.cell 1
                    have pc2 : wc.cell? ⟨gA, 2, none⟩ = some (.int .i64 b) := PB.out.cell 2
                    have pc3 : wc.cell? ⟨gA, 3, none⟩ = some (.int .i64 v) := PB.out.cell 3
                    go_wp2_with fail
                    clear pc0 pc1 pc2 pc3
                    refine (CG.out wc A3.out.G).mono ?_
                    rintro e V781 ⟨rfl, hy⟩
                    replace A3 := Lib.hid (A3.out.below hy)
                    replace PB := Lib.hid (PB.out.below hy PB.out.lt)
                    clear hy
                    go_wp2
                    go_meet
                    exact ⟨_, A3, PB⟩
            case rest => as_aux_lemma =>
              clear A3 PB
              obtain ⟨c1, A3, PB⟩ := hcut
              obtain ⟨L1, hL1⟩ : ∃ L, L = itF c1 0 (st * sz) := ⟨_, rfl⟩
              obtain ⟨n1, hn1⟩ : ∃ n, n = L1.length := ⟨_, rfl⟩
              have HNM1 : n1 ≤ 4096 := by rw [hn1, hL1]; exact Nat.le_trans (itF_len _ _ _) HNS.out
              have HV1 := A3.out.V
              rw [← hL1, ← hn1] at HV1
              obtain ⟨aw1, cw1, rfl⟩ := row_shape HV1
              clear HV1
              have CA2 := Lib.hid (fun W h => all_rd B st sz c1 (-1) L1 (by rw [cutG_all, ← hL1]) W h)
              obtain ⟨X1, hX1⟩ : ∃ X, X = L1.take 1 := ⟨_, rfl⟩
              have CA1 := Lib.hid (fun W h => all_rd B st sz c1 1 X1 (by rw [show (1 : Int) = ((1 : Nat) : Int) from rfl, cutG_take, ← hL1, hX1]) W h)
              obtain ⟨lx, hlx⟩ : ∃ n, n = X1.length := ⟨_, rfl⟩
              rw [← hn1] at CA2
              rw [← hlx] at CA1
              have hmn : lx = min 1 n1 := by rw [hlx, hX1, List.length_take, hn1]
              have CI := Lib.hid (fun W h => inI_any B st sz c1 a b W h)
              rw [← HQ.out] at CI
              unfold plA at CI
              have CL := Lib.hid (fun W h => lenI_any B st sz c1 W h)
              rw [← hL1, ← hn1] at CL
              have hib : (inb != inb) = false := by cases inb <;> rfl
              have HL1 := Lib.hid hL1
              have HX1 := Lib.hid hX1
              have HN1 := Lib.hid hn1
              have HMN := Lib.hid hmn
              have mm1 : (if (n1 : Int) < 1 then (n1 : Int) else 1) = (lx : Int) := by rw [hmn]; split <;> omega
              have mm2 : (if n1 < 1 then (n1 : Int) else 1) = (lx : Int) := by rw [hmn]; split <;> omega
              have mm3 : (if n1 = 0 then (n1 : Int) else 1) = (lx : Int) := by rw [hmn]; split <;> omega
              have nn1 : ((n1 : Int) != (n1 : Int)) = false := by simp
              have nn2 : ((lx : Int) != (lx : Int)) = false := by simp
              clear hL1 hX1 hn1 hlx hmn HTW HO HHS HNM HL HN HQ
              have pc0 : wc.cell? ⟨gA, 0, none⟩ = some (.int .i64 kd) := PB.out.cell 0
              have pc1 : wc.cell? ⟨gA, 1, none⟩ = some (.int .i64 a) := PB.out.cell 1
              have pc2 : wc.cell? ⟨gA, 2, none⟩ = some (.int .i64 b) := PB.out.cell 2
              have pc3 : wc.cell? ⟨gA, 3, none⟩ = some (.int .i64 v) := PB.out.cell 3
              go_wp2_with fail
              clear pc0 pc1 pc2 pc3
              refine (CA2.out wc A3.out.G).mono ?_
              rintro e V801 ⟨ay, cy, rfl, hx, hy⟩
              replace A3 := Lib.hid (A3.out.below hy)
              replace PB := Lib.hid (PB.out.below hy PB.out.lt)
              have RY := Lib.hid (hx)
              clear hx
              clear hy
              go_wp2_with fail
              refine (CA1.out V801 A3.out.G).mono ?_
              rintro e V802 ⟨ax, cx, rfl, hx, hy⟩
              replace A3 := Lib.hid (A3.out.below hy)
              replace PB := Lib.hid (PB.out.below hy PB.out.lt)
              replace RY := Lib.hid (RY.out.below hy)
              have RX := Lib.hid (hx)
              clear hx
              clear hy
              have pc0 : V802.cell? ⟨gA, 0, none⟩ = some (.int .i64 kd) := PB.out.cell 0
              have pc1 : V802.cell? ⟨gA, 1, none⟩ = some (.int .i64 a) := PB.out.cell 1
              have pc2 : V802.cell? ⟨gA, 2, none⟩ = some (.int .i64 b) := PB.out.cell 2
              have pc3 : V802.cell? ⟨gA, 3, none⟩ = some (.int .i64 v) := PB.out.cell 3
              go_wp2_with fail
              clear pc0 pc1 pc2 pc3
              refine (CI.out V802 A3.out.G).mono ?_
              rintro e V803 ⟨rfl, hy⟩
              replace A3 := Lib.hid (A3.out.below hy)
              replace PB := Lib.hid (PB.out.below hy PB.out.lt)
              replace RY := Lib.hid (RY.out.below hy)
              replace RX := Lib.hid (RX.out.below hy)
              clear hy
              go_wp2_with fail
              refine (CL.out V803 A3.out.G).mono ?_
              rintro e V804 ⟨rfl, hy⟩
              replace A3 := Lib.hid (A3.out.below hy)
              replace PB := Lib.hid (PB.out.below hy PB.out.lt)
              replace RY := Lib.hid (RY.out.below hy)
              replace RX := Lib.hid (RX.out.below hy)
              clear hy
              clear CA1 CA2 CI CL PB
              go_wp2
              go_loopw [19] (fun i wr => ∃ q2 : Nat, q2 ≤ n1 ∧ i = .int .i64 (q2 : Int) ∧ Hid (AS B st sz bw c1 (.slice aw1 n1 cw1) w wr) ∧ Hid (RdR wr (.slice ax lx cx) sz X1) ∧ Hid (RdR wr (.slice ay n1 cy) sz L1)) (fun i _ => n1 - (RowKit.intOf i).toNat)
              case atStart => exact ⟨0, Nat.zero_le _, rfl, A3, RX, RY⟩
              case round =>
                obtain ⟨q2, hq2, rfl, A3q, RXq, RYq⟩ := hrel
                clear A3 RX RY mm1 mm2 mm3
                by_cases hl3 : q2 < n1
                · have d10 : decide ((q2 : Int) < (n1 : Int)) = true := decide_eq_true (by omega)
                  have d11 : decide (q2 < n1) = true := decide_eq_true (by omega)
                  have hb3 : 0 ≤ (q2 : Int) ∧ (q2 : Int) < (n1 : Int) := by omega
                  have w7 : IntKind.i64.wrap ((q2 : Int) + 1) = ((q2 + 1 : Nat) : Int) := by rw [IntKind.wrap_i64]; omega
                  have hLq : L1[q2]? = some (L1[q2]'(by rw [← HN1.out]; exact hl3)) := List.getElem?_eq_getElem _
                  generalize L1[q2]'(by rw [← HN1.out]; exact hl3) = x at hLq
                  have hrd := rdR_own A3q.out.V
                  rw [← HL1.out] at hrd
                  obtain ⟨gY, cuY, rfl, hYb, y0, y1, y2⟩ := RYq.out.at q2 x hLq
                  obtain ⟨gW, cuW, rfl, hWb, z0, z1, z2⟩ := hrd.at q2 x hLq
                  have hit := item_in (HL1.out ▸ hLq)
                  have hW64 := w64_bounds (A3q.out.F _ _ hit.2)
                  have hxl := hit.1
                  have hns := HNS2.out
                  have hal := Nat.div_le_self x.1 sz
                  have hbl := Nat.mod_le x.1 sz
                  have hXn : q2 < lx → X1[q2]? = some x := fun h => by rw [HX1.out, List.getElem?_take_of_lt (by have := HMN.out; omega)]; exact hLq
                  obtain ⟨xs, hxs⟩ : ∃ q, q = x.1 / sz := ⟨_, rfl⟩
                  obtain ⟨xi, hxi⟩ : ∃ q, q = x.1 % sz := ⟨_, rfl⟩
                  obtain ⟨xv, hxv⟩ : ∃ q, q = x.2 := ⟨_, rfl⟩
                  simp only [← hxs, ← hxi, ← hxv] at y0 y1 y2 z0 z1 z2 hal hbl hW64
                  have EI := Lib.hid (fun W => eq_it xs xi xv (i64_wf _ (by omega)) (i64_wf _ (by omega)) (i64_wf _ hW64) W)
                  have YB := Lib.hid hYb
                  have Y0 := Lib.hid y0
                  have Y1 := Lib.hid y1
                  have Y2 := Lib.hid y2
                  have WBk := Lib.hid hWb
                  have Z0 := Lib.hid z0
                  have Z1 := Lib.hid z1
                  have Z2 := Lib.hid z2
                  by_cases hnx : q2 < lx
                  · have f1 : decide ((q2 : Int) < (lx : Int)) = true := decide_eq_true (by omega)
                    have f2 : decide (q2 < lx) = true := decide_eq_true hnx
                    have hb5 : 0 ≤ (q2 : Int) ∧ (q2 : Int) < (lx : Int) := by omega
                    obtain ⟨gX, cuX, rfl, hXb, x0, x1, x2⟩ := RXq.out.at q2 x (hXn hnx)
                    simp only [← hxs, ← hxi, ← hxv] at x0 x1 x2
                    have XB := Lib.hid hXb
                    have X0 := Lib.hid x0
                    have X1' := Lib.hid x1
                    have X2 := Lib.hid x2
                    clear hYb y0 y1 y2 hWb z0 z1 z2 hXb x0 x1 x2 hrd hLq hit hW64 hxl hns hal hbl hXn hxs hxi hxv hnx
                    go_upto_region 40 with fail
                    refine wp_region_held (S := (fun w' : World => w' = wr.drew)) (by kernel_rfl) ?_
                    change wpAnyH _ _ _ _ _ _ _ _ wr.drew
                    have hy : Below wr.heap.size wr wr.drew := (Below.refl _ _).drew
                    replace A3q := Lib.hid (A3q.out.below hy)
                    replace RXq := Lib.hid (RXq.out.below hy)
                    replace RYq := Lib.hid (RYq.out.below hy)
                    replace YB := Lib.hid (YB.out.below hy YB.out.lt)
                    replace WBk := Lib.hid (WBk.out.below hy WBk.out.lt)
                    replace XB := Lib.hid (XB.out.below hy XB.out.lt)
                    clear hy
                    generalize wr.drew = Y40q at *
                    refine tkA 0 (?_) ?_ rfl ?_
                    rotate_left
                    · (intro w1 hS; rw [hS]; go_simp; try with_reducible rfl)
                    simp only [Act.put, tS1, tS2, tS3]
                    refine tkA 1 (?_) ?_ rfl ?_
                    rotate_left
                    · (intro w1 hS; rw [hS]; go_simp; try with_reducible rfl)
                    simp only [Act.put, tS1, tS2, tS3]
                    refine tkA 2 (?_) ?_ rfl ?_
                    rotate_left
                    · (intro w1 hS; rw [hS]; go_simp; try with_reducible rfl)
                    simp only [Act.put, tS1, tS2, tS3]
                    refine tkA 3 (.agg #[.int .i64 (xs : Int), .int .i64 (xi : Int), .int .i64 xv]) ?_ rfl ?_
                    · (intro w1 hS; rw [hS]; exact exec_load 35 (.tmp 248) rfl _ rfl _ (load_it YB.out Y0.out Y1.out Y2.out))
                    simp only [Act.put, tS1, tS2, tS3]
                    refine tkA 4 (?_) ?_ rfl ?_
                    rotate_left
                    · (intro w1 hS; rw [hS]; go_simp; try with_reducible rfl)
                    simp only [Act.put, tS1, tS2, tS3]
                    refine tkA 5 (?_) ?_ rfl ?_
                    rotate_left
                    · (intro w1 hS; rw [hS]; go_simp; try with_reducible rfl)
                    simp only [Act.put, tS1, tS2, tS3]
                    refine tkA 6 (?_) ?_ rfl ?_
                    rotate_left
                    · (intro w1 hS; rw [hS]; go_simp; try with_reducible rfl)
                    simp only [Act.put, tS1, tS2, tS3]
                    refine tkA 7 (.agg #[.int .i64 (xs : Int), .int .i64 (xi : Int), .int .i64 xv]) ?_ rfl ?_
                    · (intro w1 hS; rw [hS]; exact exec_load 35 (.tmp 252) rfl _ rfl _ (load_it WBk.out Z0.out Z1.out Z2.out))
                    simp only [Act.put, tS1, tS2, tS3]
                    refine tkA 8 (.bool false) ?_ rfl ?_
                    · (intro w1 hS; rw [hS]; exact exec_neqA gd35 (.tmp 249) (.tmp 253) rfl _ _ rfl rfl true (EI.out _))
                    simp only [Act.put, tS1, tS2, tS3]
                    refine tkA 9 (?_) ?_ rfl ?_
                    rotate_left
                    · (intro w1 hS; rw [hS]; go_simp; try with_reducible rfl)
                    simp only [Act.put, tS1, tS2, tS3]
                    refine tkA 10 (?_) ?_ rfl ?_
                    rotate_left
                    · (intro w1 hS; rw [hS]; go_simp; try with_reducible rfl)
                    simp only [Act.put, tS1, tS2, tS3]
                    refine tkA 11 (?_) ?_ rfl ?_
                    rotate_left
                    · (intro w1 hS; rw [hS]; go_simp; try with_reducible rfl)
                    simp only [Act.put, tS1, tS2, tS3]
                    refine tkA 12 (?_) ?_ rfl ?_
                    rotate_left
                    · (intro w1 hS; rw [hS]; go_simp; try with_reducible rfl)
                    simp only [Act.put, tS1, tS2, tS3]
                    refine tkA 13 (?_) ?_ rfl ?_
                    rotate_left
                    · (intro w1 hS; rw [hS]; go_simp; try with_reducible rfl)
                    simp only [Act.put, tS1, tS2, tS3]
                    refine tkA 14 (?_) ?_ rfl ?_
                    rotate_left
                    · (intro w1 hS; rw [hS]; go_simp; try with_reducible rfl)
                    simp only [Act.put, tS1, tS2, tS3]
                    refine tkA 15 (?_) ?_ rfl ?_
                    rotate_left
                    · (intro w1 hS; rw [hS]; go_simp; try with_reducible rfl)
                    simp only [Act.put, tS1, tS2, tS3]
                    refine tkA 16 (?_) ?_ rfl ?_
                    rotate_left
                    · (intro w1 hS; rw [hS]; go_simp; try with_reducible rfl)
                    simp only [Act.put, tS1, tS2, tS3]
                    refine tkA 17 (?_) ?_ rfl ?_
                    rotate_left
                    · (intro w1 hS; rw [hS]; go_simp; try with_reducible rfl)
                    simp only [Act.put, tS1, tS2, tS3]
                    refine tkA 18 (.agg #[.int .i64 (xs : Int), .int .i64 (xi : Int), .int .i64 xv]) ?_ rfl ?_
                    · (intro w1 hS; rw [hS]; exact exec_load 35 (.tmp 263) rfl _ rfl _ (load_it XB.out X0.out X1'.out X2.out))
                    simp only [Act.put, tS1, tS2, tS3]
                    refine tkA 19 (?_) ?_ rfl ?_
                    rotate_left
                    · (intro w1 hS; rw [hS]; go_simp; try with_reducible rfl)
                    simp only [Act.put, tS1, tS2, tS3]
                    refine tkA 20 (?_) ?_ rfl ?_
                    rotate_left
                    · (intro w1 hS; rw [hS]; go_simp; try with_reducible rfl)
                    simp only [Act.put, tS1, tS2, tS3]
                    refine tkA 21 (?_) ?_ rfl ?_
                    rotate_left
                    · (intro w1 hS; rw [hS]; go_simp; try with_reducible rfl)
                    simp only [Act.put, tS1, tS2, tS3]
                    refine tkA 22 (.agg #[.int .i64 (xs : Int), .int .i64 (xi : Int), .int .i64 xv]) ?_ rfl ?_
                    · (intro w1 hS; rw [hS]; exact exec_load 35 (.tmp 267) rfl _ rfl _ (load_it WBk.out Z0.out Z1.out Z2.out))
                    simp only [Act.put, tS1, tS2, tS3]
                    refine tkA 23 (.bool false) ?_ rfl ?_
                    · (intro w1 hS; rw [hS]; exact exec_neqA gd35 (.tmp 264) (.tmp 268) rfl _ _ rfl rfl true (EI.out _))
                    simp only [Act.put, tS1, tS2, tS3]
                    refine tkA 24 (?_) ?_ rfl ?_
                    rotate_left
                    · (intro w1 hS; rw [hS]; go_simp; try with_reducible rfl)
                    simp only [Act.put, tS1, tS2, tS3]
                    refine tkA 25 (?_) ?_ rfl ?_
                    rotate_left
                    · (intro w1 hS; rw [hS]; go_simp; try with_reducible rfl)
                    simp only [Act.put, tS1, tS2, tS3]
                    refine wpAnyH_done (by kernel_rfl) ?_ _
                    clear YB WBk XB
                    go_wp2
                    go_roundw
                    case rel => exact ⟨q2 + 1, hl3, by go_num, A3q, RXq, RYq⟩
                    case measure => simp [RowKit.intOf]; omega
                  · have f1 : decide ((q2 : Int) < (lx : Int)) = false := decide_eq_false (by omega)
                    have f2 : decide (q2 < lx) = false := decide_eq_false hnx
                    clear hYb y0 y1 y2 hWb z0 z1 z2 hrd hLq hit hW64 hxl hns hal hbl hXn hxs hxi hxv hnx
                    go_upto_region 40 with fail
                    refine wp_region_held (S := (fun w' : World => w' = wr.drew)) (by kernel_rfl) ?_
                    change wpAnyH _ _ _ _ _ _ _ _ wr.drew
                    have hy : Below wr.heap.size wr wr.drew := (Below.refl _ _).drew
                    replace A3q := Lib.hid (A3q.out.below hy)
                    replace RXq := Lib.hid (RXq.out.below hy)
                    replace RYq := Lib.hid (RYq.out.below hy)
                    replace YB := Lib.hid (YB.out.below hy YB.out.lt)
                    replace WBk := Lib.hid (WBk.out.below hy WBk.out.lt)
                    clear hy
                    generalize wr.drew = Y40q at *
                    refine tkA 0 (?_) ?_ rfl ?_
                    rotate_left
                    · (intro w1 hS; rw [hS]; go_simp; try with_reducible rfl)
                    simp only [Act.put, tS1, tS2, tS3]
                    refine tkA 1 (?_) ?_ rfl ?_
                    rotate_left
                    · (intro w1 hS; rw [hS]; go_simp; try with_reducible rfl)
                    simp only [Act.put, tS1, tS2, tS3]
                    refine tkA 2 (?_) ?_ rfl ?_
                    rotate_left
                    · (intro w1 hS; rw [hS]; go_simp; try with_reducible rfl)
                    simp only [Act.put, tS1, tS2, tS3]
                    refine tkA 3 (.agg #[.int .i64 (xs : Int), .int .i64 (xi : Int), .int .i64 xv]) ?_ rfl ?_
                    · (intro w1 hS; rw [hS]; exact exec_load 35 (.tmp 248) rfl _ rfl _ (load_it YB.out Y0.out Y1.out Y2.out))
                    simp only [Act.put, tS1, tS2, tS3]
                    refine tkA 4 (?_) ?_ rfl ?_
                    rotate_left
                    · (intro w1 hS; rw [hS]; go_simp; try with_reducible rfl)
                    simp only [Act.put, tS1, tS2, tS3]
                    refine tkA 5 (?_) ?_ rfl ?_
                    rotate_left
                    · (intro w1 hS; rw [hS]; go_simp; try with_reducible rfl)
                    simp only [Act.put, tS1, tS2, tS3]
                    refine tkA 6 (?_) ?_ rfl ?_
                    rotate_left
                    · (intro w1 hS; rw [hS]; go_simp; try with_reducible rfl)
                    simp only [Act.put, tS1, tS2, tS3]
                    refine tkA 7 (.agg #[.int .i64 (xs : Int), .int .i64 (xi : Int), .int .i64 xv]) ?_ rfl ?_
                    · (intro w1 hS; rw [hS]; exact exec_load 35 (.tmp 252) rfl _ rfl _ (load_it WBk.out Z0.out Z1.out Z2.out))
                    simp only [Act.put, tS1, tS2, tS3]
                    refine tkA 8 (.bool false) ?_ rfl ?_
                    · (intro w1 hS; rw [hS]; exact exec_neqA gd35 (.tmp 249) (.tmp 253) rfl _ _ rfl rfl true (EI.out _))
                    simp only [Act.put, tS1, tS2, tS3]
                    refine tkA 9 (?_) ?_ rfl ?_
                    rotate_left
                    · (intro w1 hS; rw [hS]; go_simp; try with_reducible rfl)
                    simp only [Act.put, tS1, tS2, tS3]
                    refine tkA 10 (?_) ?_ rfl ?_
                    rotate_left
                    · (intro w1 hS; rw [hS]; go_simp; try with_reducible rfl)
                    simp only [Act.put, tS1, tS2, tS3]
                    refine tkA 11 (?_) ?_ rfl ?_
                    rotate_left
                    · (intro w1 hS; rw [hS]; go_simp; try with_reducible rfl)
                    simp only [Act.put, tS1, tS2, tS3]
                    refine tkA 12 (?_) ?_ rfl ?_
                    rotate_left
                    · (intro w1 hS; rw [hS]; go_simp; try with_reducible rfl)
                    simp only [Act.put, tS1, tS2, tS3]
                    refine tkA 13 (?_) ?_ rfl ?_
                    rotate_left
                    · (intro w1 hS; rw [hS]; go_simp; try with_reducible rfl)
                    simp only [Act.put, tS1, tS2, tS3]
                    refine tkA 14 (?_) ?_ rfl ?_
                    rotate_left
                    · (intro w1 hS; rw [hS]; go_simp; try with_reducible rfl)
                    simp only [Act.put, tS1, tS2, tS3]
                    refine tkN 15 rfl ?_
                    simp only [Act.put, tS1, tS2, tS3]
                    refine tkN 16 rfl ?_
                    simp only [Act.put, tS1, tS2, tS3]
                    refine tkN 17 rfl ?_
                    simp only [Act.put, tS1, tS2, tS3]
                    refine tkN 18 rfl ?_
                    simp only [Act.put, tS1, tS2, tS3]
                    refine tkN 19 rfl ?_
                    simp only [Act.put, tS1, tS2, tS3]
                    refine tkN 20 rfl ?_
                    simp only [Act.put, tS1, tS2, tS3]
                    refine tkN 21 rfl ?_
                    simp only [Act.put, tS1, tS2, tS3]
                    refine tkN 22 rfl ?_
                    simp only [Act.put, tS1, tS2, tS3]
                    refine tkN 23 rfl ?_
                    simp only [Act.put, tS1, tS2, tS3]
                    refine tkA 24 (?_) ?_ rfl ?_
                    rotate_left
                    · (intro w1 hS; rw [hS]; go_simp; try with_reducible rfl)
                    simp only [Act.put, tS1, tS2, tS3]
                    refine tkA 25 (?_) ?_ rfl ?_
                    rotate_left
                    · (intro w1 hS; rw [hS]; go_simp; try with_reducible rfl)
                    simp only [Act.put, tS1, tS2, tS3]
                    refine wpAnyH_done (by kernel_rfl) ?_ _
                    clear YB WBk
                    go_wp2
                    go_roundw
                    case rel => exact ⟨q2 + 1, hl3, by go_num, A3q, RXq, RYq⟩
                    case measure => simp [RowKit.intOf]; omega
                · obtain rfl : q2 = n1 := by omega
                  have d10 : decide (((q2 : Nat) : Int) < (q2 : Int)) = false := decide_eq_false (by omega)
                  have d11 : decide (q2 < q2) = false := decide_eq_false (by omega)
                  clear RXq RYq
                  go_wp2
                  go_roundw
                  case rel => exact ⟨j + 1, c1, hlt, by go_num, A3q⟩
                  case measure => simp [RowKit.intOf]; omega
    · as_aux_lemma =>
      obtain rfl : j = ln := by omega
      have d8 : decide (((j : Nat) : Int) < (j : Int)) = false := decide_eq_false (by omega)
      have d9 : decide (j < j) = false := decide_eq_false (by omega)
      have K := Lib.hid Ar.out.K
      go_wp2_with fail
      refine (AW.out wr).mono ?_
      rintro e V901 ⟨rfl, hy⟩
      replace K := Lib.hid (K.out.trans (hy.mono K.out.size))
      clear hy
      go_wp2
      go_ret
      exact ⟨rfl, K.out⟩
end Go.Proofs.Ytimnmdeiiahakaa
