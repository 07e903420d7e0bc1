/- Texts that the walks of this seat lean on, put together. -/
import Derived.Lib.AppendZeros
import Derived.Lib.AppendZerosOnto
import Derived.Laws.AppendOwnNone
import Derived.BigFrame
import Derived.WalkKit
import Derived.LoopTactic
import Derived.Handy
import Derived.Test.YthkaadcgiplolaaDoorTk
import Derived.Test.YthkaadcgiplolaaDoorM01
import Derived.Test.YthkaadcgiplolaaDoorM13
import Derived.Test.YthkaadcgiplolaaDoorM16
import Derived.Test.YthkaadcgiplolaaDoorM27
namespace Go.Proofs.YthkaadcgiplolaaDoor
open Go.RowKit
theorem wpList_app {w : World} {ops : Array Oper} {rest : List Oper} {o : Oper} {a : Act} {Q : Exit → Act → World → Prop} (hw : Region.wanted o (yielded ops a.tmps) = true) (s x : Operand)
    (ho : o.op = .call { callee := .builtin .append, args := #[s, x], argTypes := #[28, 28] })
    (base : Nat) (v : Value) (n : Nat) (zs : List Nat) (hs : a.eval s = v) (hown : w.ownsRow base 5 1 v n (nus .u8 zs))
    (ao : Option Addr) (len cap : Nat) (bs : List Nat) (hx : a.eval x = .slice ao len cap) (hr : Rd w (.slice ao len cap) (nus .u8 bs)) (hn : ao = none → cap = 0) (hlen : n + len ≤ 1000000) (hbase : base ≤ w.heap.size)
    (h : ∀ v' w', w'.ownsRow base 5 1 v' (n + len) (nus .u8 (zs ++ bs)) → w.grownBy w' v.ownBlock → wpList Tryd.prog ops Q rest (a.put o.dst v') w') :
    wpList Tryd.prog ops Q (o :: rest) a w := by
  obtain ⟨i0, hi, hz0, hz1, hz2⟩ := info_parts Tryd.info5
  obtain ⟨a', cap', e, h1, h2, h3⟩ := hr
  simp only [Value.slice.injEq] at e
  obtain ⟨rfl, he, rfl⟩ := e
  rw [nus_length] at he h1 h3
  subst he
  refine BigFrame.wpList_want hw fun K hK => ?_
  cases ao with
  | none =>
    obtain rfl := hn rfl
    have hb : bs = [] := by cases bs with | nil => rfl | cons _ _ => simp at h1
    subst hb
    have hrun := run_append_owned_none (P := Tryd.prog) (w := w) base 28 o.type 5 i0 1 Tryd.underlying28 hi v n (nus .u8 zs) hown
    unfold Oper.wp
    simp [execOp, ho, resolve, invoke, builtin, hs, hx, hrun, Result.andThen]
    exact hK _ _ (h v w (by simpa using hown) (World.grownBy.refl _ _))
  | some ad =>
    refine wp_append_own w s x 28 ho base 5 i0 (.int .u8 0) 1 1 Tryd.underlying28 hi hz0 hz1 hz2 rfl (by decide) v n (nus .u8 zs) hs hown ad bs.length cap (nus .u8 bs) hx (by rw [nus_length]; omega) ?_ (oneCell_nus _ _) (by unfold maxLen; omega) (by omega) hbase ?_
    · intro j u hj
      rcases h3 with h3 | ⟨b, off, e, hb, hcc⟩
      · rw [h3] at hj; simp at hj
      · cases e
        have hjl : j < (nus .u8 bs).length := (List.getElem?_eq_some_iff.1 hj).1
        rw [nus_length] at hjl
        rw [← hj]
        rw [Addr.add_lit]; exact hcc j hjl
    · intro v' w' hown' hgr _
      exact hK _ _ (h v' w' (by rw [nus_append]; exact hown') hgr)
theorem own_none (w : World) (e : TypeId) : (w.alloc (.cells #[] e)).ownsRow w.heap.size e 1 (.slice (some ⟨w.heap.size, 0, none⟩) 0 0) 0 (nus .u8 []) :=
  own_of_heap (show (w.heap.push (.cells #[] e))[w.heap.size]? = _ by simp [nus]) (Nat.le_refl _) rfl (by simp [maxLen])
end Go.Proofs.YthkaadcgiplolaaDoor
namespace Go.Proofs.YthkaadcgiplolaaDoor
open Go.RowKit
theorem own_front {w : World} {base g cap : Nat} {e : TypeId} {cur : Array Value} (hg : w.heap[g]? = some (.cells cur e (0, 0))) (hb : base ≤ g) (hc : cur.size = cap) (hm : cap ≤ maxLen) :
    w.ownsRow base e 1 (.slice (some ⟨g, 0, none⟩) 0 cap) 0 (nus .u8 []) :=
  ⟨by simp [nus], .inr ⟨g, cap, cur, rfl, hb, hg, Nat.zero_le _, hm, by simpa using hc, by simp [nus]⟩⟩
set_option maxRecDepth 100000 in
set_option maxHeartbeats 1000000 in
theorem grow_nil (n : Nat) (w : World) (h0 : 0 < n) (hn : n ≤ 1000000) :
    Calls Tryd.prog 42 #[.slice none 0 0, .int .i64 (n : Int)] w fun e w' => ∃ x, e = .returned x ∧ w'.ownsRow w.heap.size 5 1 x 0 (nus .u8 []) ∧ Below w.heap.size w w' := by
  obtain ⟨i, hi, hz, hs, hby⟩ := info_parts Tryd.info5
  have hr := Lib.hid (Lib.run_append_nil_zeros (P := Tryd.prog) w 28 3 28 5 i (.int .u8 0) .i64 .i64 Tryd.underlying28 Tryd.underlying3 hi hz n h0 (by omega) (by omega) (by rw [hby]; omega))
  have hcm := grownCap_le_maxLen w n 0 5 (by unfold maxLen; omega)
  have hge := grownCap_ge w n 0 5
  have hsz : (Builtin.zeroCells (Value.int .u8 0).cells n ++ Builtin.zeroCells (Value.int .u8 0).cells (grownCap w n 0 5 - n)).size = grownCap w n 0 5 := by
    rw [Array.size_append, size_zeroCells, size_zeroCells]
    show n * 1 + (grownCap w n 0 5 - n) * 1 = _
    omega
  generalize Builtin.zeroCells (Value.int .u8 0).cells n ++ Builtin.zeroCells (Value.int .u8 0).cells (grownCap w n 0 5 - n) = cur at *
  have hown := Lib.hid (own_front (base := w.heap.size) (heap_alloc_new w.drew (.cells cur 5)) (Nat.le_refl _) hsz hcm)
  have hbel := Lib.hid ((Below.refl w.heap.size w).drew.alloc (Nat.le_refl _) (.cells cur 5))
  generalize grownCap w n 0 5 = cap at *
  unfold maxLen at hcm
  clear hi hz hs hby hsz
  have hd1 : decide ((n : Int) < 0) = false := decide_eq_false (by omega)
  have hd2 : decide (0 < n) = true := decide_eq_true (by omega)
  go_enter Tryd.func42, Tryd.ntmps42
  go_wp2_with (refine Lib.wpList_append_run _ rfl (.tmp 20) (.tmp 21) 28 3 rfl _ _ rfl rfl _ _ hr.out ?_)
  go_wp2
  go_ret
  exact ⟨_, rfl, hown.out, hbel.out⟩
end Go.Proofs.YthkaadcgiplolaaDoor
namespace Go.Proofs.YthkaadcgiplolaaDoor
open Go.RowKit
def csN (n : Nat → Nat) : Nat → Nat
  | 0 => 0
  | j + 1 => csN n j + n j
def crN (z : Nat → List Nat) : Nat → List Nat
  | 0 => []
  | j + 1 => crN z j ++ z j
theorem csN_le (n : Nat → Nat) {j k : Nat} (h : j ≤ k) : csN n j ≤ csN n k := by
  induction h with
  | refl => exact Nat.le_refl _
  | step _ ih => exact Nat.le_trans ih (Nat.le_add_right _ _)
theorem lt_cell {w : World} {b o : Nat} {v : Value} (h : w.cell? ⟨b, o, none⟩ = some v) : b < w.heap.size := by
  rcases Nat.lt_or_ge b w.heap.size with q | q
  · exact q
  · simp [World.cell?, Array.getElem?_eq_none q] at h
end Go.Proofs.YthkaadcgiplolaaDoor
namespace Go.Proofs.YthkaadcgiplolaaDoor
open Go.RowKit
set_option maxRecDepth 100000 in
set_option maxHeartbeats 2000000 in
theorem concat_any (cnt : Nat) (hcnt : cnt ≤ 1000) (b : Nat) (a : Nat → Option Addr) (n c : Nat → Nat) (z : Nat → List Nat) (w : World)
    (hc : ∀ j, j < cnt → w.cell? ⟨b, j, none⟩ = some (.slice (a j) (n j) (c j))) (hr : ∀ j, j < cnt → Rd w (.slice (a j) (n j) (c j)) (nus .u8 (z j)))
    (h0 : ∀ j, j < cnt → a j = none → c j = 0) (hl : ∀ j, j < cnt → (z j).length = n j) (hp : 0 < csN n cnt) (hm : csN n cnt ≤ 1000000) :
    Calls Tryd.prog 31 #[.slice (some ⟨b, 0, none⟩) cnt cnt] w fun e w' => ∃ x, e = .returned x ∧ w'.ownsRow w.heap.size 5 1 x (csN n cnt) (nus .u8 (crN z cnt)) ∧ Below w.heap.size w w' := by
  have hb : b < w.heap.size := by
    rcases Nat.eq_zero_or_pos cnt with q | q
    · rw [q] at hp; exact absurd hp (by simp [csN])
    · exact lt_cell (hc 0 q)
  have C := Lib.hid hc
  have H := Lib.hid hr
  have H0 := Lib.hid h0
  have HL := Lib.hid hl
  have M := Lib.hid (fun (j : Nat) (h : j ≤ cnt) => Nat.le_trans (csN_le n h) hm)
  obtain ⟨N, hN⟩ : ∃ N, N = csN n cnt := ⟨_, rfl⟩
  have HN := Lib.hid hN
  have hd1 : decide ((N : Int) < 0) = false := decide_eq_false (by omega)
  rw [← hN] at hp hm ⊢
  clear hc hr h0 hl hN
  go_enter Tryd.func31, Tryd.ntmps31
  go_wp2_with fail
  go_loop [3, 11] (fun s i => ∃ j : Nat, j ≤ cnt ∧ i = .int .i64 (j : Int) ∧ s = .int .i64 (csN n j : Nat)) (fun _ i => cnt - (intOf i).toNat)
  case atStart => exact ⟨0, by omega, rfl, rfl⟩
  case round =>
    obtain ⟨j, hj, rfl, rfl⟩ := hrel
    by_cases hjc : j < cnt
    · have c0 := C.out j hjc
      have m0 := M.out j hj
      have m1 := M.out (j + 1) hjc
      rw [csN] at m1
      have e1 : IntKind.i64.wrap ((csN n j : Int) + (n j : Int)) = ((csN n (j + 1) : Nat) : Int) := by rw [IntKind.wrap_i64, csN]; omega
      have E1 := Lib.hid e1
      have j1 : (j : Int) < (cnt : Int) := by omega
      have d1 : decide (((csN n (j + 1) : Nat) : Int) < 0) = false := decide_eq_false (by omega)
      have HT := Lib.hid (show ∃ T, T = csN n (j + 1) from ⟨_, rfl⟩)
      obtain ⟨T, hT⟩ := HT.out
      have HT := Lib.hid hT
      rw [← hT] at e1 d1
      clear E1 hT
      generalize csN n j = S at *
      generalize n j = m at *
      go_wp2
      go_round
      case rel => exact ⟨j + 1, by omega, by go_num, by rw [HT.out]⟩
      case measure => simp [intOf]; omega
    · obtain rfl : cnt = j := by omega
      rw [← HN.out]
      go_wp2_with fail
      refine (grow_nil N w hp hm).mono ?_; rintro e w1 ⟨x, rfl, ho, hbw⟩
      have O := Lib.hid ho
      have B := Lib.hid hbw
      clear ho hbw hd1
      go_wp2_with fail
      go_loopw [6, 27] (fun s i wr => ∃ j : Nat, j ≤ cnt ∧ i = .int .i64 (j : Int) ∧ wr.ownsRow w.heap.size 5 1 s (csN n j) (nus .u8 (crN z j)) ∧ Below w.heap.size w wr) (fun _ i _ => cnt - (intOf i).toNat)
      case atStart => exact ⟨0, by omega, rfl, O.out, B.out⟩
      case round =>
        obtain ⟨j, hj, rfl, ho, hbw⟩ := hrel
        have OJ := Lib.hid ho
        have BJ := Lib.hid hbw
        clear ho hbw
        by_cases hjc : j < cnt
        · have c0 := (BJ.out.cell (p := ⟨b, j, none⟩) hb).trans (C.out j hjc)
          have R1 := Lib.hid ((H.out j hjc).below BJ.out)
          have m0 := M.out j hj
          have hl := HL.out j hjc
          have h0 := Lib.hid (H0.out j hjc)
          have b0 := BJ.out.size
          have m1 := M.out (j + 1) hjc
          rw [csN] at m1
          have j1 : (j : Int) < (cnt : Int) := by omega
          have EC : Hid (csN n (j + 1) = csN n j + n j) := rfl
          have ER : Hid (crN z (j + 1) = crN z j ++ z j) := rfl
          obtain ⟨T, hT⟩ : ∃ T, T = csN n (j + 1) := ⟨_, rfl⟩
          obtain ⟨U, hU⟩ : ∃ U, U = crN z (j + 1) := ⟨_, rfl⟩
          rw [← hT] at EC
          rw [← hU] at ER
          have HT := Lib.hid hT
          have HU := Lib.hid hU
          clear hT hU
          generalize csN n j = S at *
          generalize crN z j = X at *
          generalize n j = m at *
          generalize z j = Y at *
          generalize a j = A at *
          generalize c j = k at *
          subst hl
          go_wp2_with (at_builtin; refine wpList_app rfl (.tmp 31) (.tmp 32) rfl w.heap.size _ S X rfl OJ.out A Y.length k Y rfl R1.out h0.out ?x0a ?x0b ?x0c)
          case x0a => omega
          case x0b => exact b0
          intro v2 w2 o2 g2
          have K2 := Lib.hid (BJ.out.grown g2 BJ.out.size (fun k e => (OJ.out.lt k e).1))
          have O2 : Hid (w2.ownsRow w.heap.size 5 1 v2 T (nus .u8 U)) := by show World.ownsRow _ _ _ _ _ _ _; rw [EC.out, ER.out]; exact o2
          clear o2 g2 c0 EC ER
          go_wp2
          go_roundw
          case rel => exact ⟨j + 1, by omega, by go_num, by rw [← HT.out, ← HU.out]; exact O2.out, K2.out⟩
          case measure => simp [intOf]; omega
        · obtain rfl : cnt = j := by omega
          rw [← HN.out] at OJ
          have O1 := Lib.hid OJ.out
          clear OJ hj hjc
          go_wp2
          go_ret
          exact ⟨_, rfl, O1.out, BJ.out⟩
theorem concat_3 (b : Nat) (a0 a1 a2 : Option Addr) (n0 n1 n2 c0 c1 c2 : Nat) (z0 z1 z2 : List Nat) (w : World) (B : Blk w b 28 #[.slice a0 n0 c0, .slice a1 n1 c1, .slice a2 n2 c2])
    (r0 : Rd w (.slice a0 n0 c0) (nus .u8 z0)) (r1 : Rd w (.slice a1 n1 c1) (nus .u8 z1)) (r2 : Rd w (.slice a2 n2 c2) (nus .u8 z2))
    (h0 : a0 = none → c0 = 0) (h1 : a1 = none → c1 = 0) (h2 : a2 = none → c2 = 0) (l0 : z0.length = n0) (l1 : z1.length = n1) (l2 : z2.length = n2) (hp : 0 < n0) (hm : n0 + n1 + n2 ≤ 1000000) :
    Calls Tryd.prog 31 #[.slice (some ⟨b, 0, none⟩) 3 3] w fun e w' => ∃ x, e = .returned x ∧ w'.ownsRow w.heap.size 5 1 x (n0 + n1 + n2) (nus .u8 (z0 ++ (z1 ++ z2))) ∧ Below w.heap.size w w' := by
  have := concat_any 3 (by omega) b (fun j => match j with | 0 => a0 | 1 => a1 | _ => a2) (fun j => match j with | 0 => n0 | 1 => n1 | _ => n2) (fun j => match j with | 0 => c0 | 1 => c1 | _ => c2) (fun j => match j with | 0 => z0 | 1 => z1 | _ => z2) w
    (fun j hj => by match j, hj with | 0, _ => exact B.cell 0 | 1, _ => exact B.cell 1 | 2, _ => exact B.cell 2)
    (fun j hj => by match j, hj with | 0, _ => exact r0 | 1, _ => exact r1 | 2, _ => exact r2)
    (fun j hj => by match j, hj with | 0, _ => exact h0 | 1, _ => exact h1 | 2, _ => exact h2)
    (fun j hj => by match j, hj with | 0, _ => exact l0 | 1, _ => exact l1 | 2, _ => exact l2)
    (by simp only [csN]; omega) (by simp only [csN]; omega)
  simpa [csN, crN] using this
end Go.Proofs.YthkaadcgiplolaaDoor
namespace Go.Proofs.YthkaadcgiplolaaDoor
open Go.RowKit
theorem wp_app {w : World} {K : Act → World → Prop} {Q : Exit → Act → World → Prop} {o : Oper} {a : Act} (s x : Operand)
    (ho : o.op = .call { callee := .builtin .append, args := #[s, x], argTypes := #[28, 28] })
    (base : Nat) (v : Value) (n : Nat) (zs : List Nat) (hs : a.eval s = v) (hown : w.ownsRow base 5 1 v n (nus .u8 zs))
    (ao : Option Addr) (len cap : Nat) (bs : List Nat) (hx : a.eval x = .slice ao len cap) (hr : Rd w (.slice ao len cap) (nus .u8 bs)) (hn : ao = none → cap = 0) (hlen : n + len ≤ 1000000) (hbase : base ≤ w.heap.size)
    (h : ∀ v' w', w'.ownsRow base 5 1 v' (n + len) (nus .u8 (zs ++ bs)) → w.grownBy w' v.ownBlock → K (a.put o.dst v') w') :
    o.wp Tryd.prog a w K Q := by
  obtain ⟨i0, hi, hz0, hz1, hz2⟩ := info_parts Tryd.info5
  obtain ⟨a', cap', e, h1, h2, h3⟩ := hr
  simp only [Value.slice.injEq] at e
  obtain ⟨rfl, he, rfl⟩ := e
  rw [nus_length] at he h1 h3
  subst he
  cases ao with
  | none =>
    obtain rfl := hn rfl
    have hb : bs = [] := by cases bs with | nil => rfl | cons _ _ => simp at h1
    subst hb
    have hrun := run_append_owned_none (P := Tryd.prog) (w := w) base 28 o.type 5 i0 1 Tryd.underlying28 hi v n (nus .u8 zs) hown
    unfold Oper.wp
    simp [execOp, ho, resolve, invoke, builtin, hs, hx, hrun, Result.andThen]
    exact h v w (by simpa using hown) (World.grownBy.refl _ _)
  | some ad =>
    refine wp_append_own w s x 28 ho base 5 i0 (.int .u8 0) 1 1 Tryd.underlying28 hi hz0 hz1 hz2 rfl (by decide) v n (nus .u8 zs) hs hown ad bs.length cap (nus .u8 bs) hx (by rw [nus_length]; omega) ?_ (oneCell_nus _ _) (by unfold maxLen; omega) (by omega) hbase ?_
    · intro j u hj
      rcases h3 with h3 | ⟨b, off, e, hb, hcc⟩
      · rw [h3] at hj; simp at hj
      · cases e
        have hjl : j < (nus .u8 bs).length := (List.getElem?_eq_some_iff.1 hj).1
        rw [nus_length] at hjl
        rw [← hj]
        rw [Addr.add_lit]; exact hcc j hjl
    · intro v' w' hown' hgr _
      exact h v' w' (by rw [nus_append]; exact hown') hgr
end Go.Proofs.YthkaadcgiplolaaDoor
namespace Go.Proofs.YthkaadcgiplolaaDoor
open Go.RowKit
theorem wp_blk_store {P : Program} {w : World} {K : Act → World → Prop} {Q : Exit → Act → World → Prop} {g : Nat} {t : TypeId} {cs : Array Value} {op : Oper} {a : Act} (ty : TypeId) (x y : Operand) (ho : op.op = .store ty x y)
    (vs : Array Value) (hx : a.eval x = .pointer (some ⟨g, 0, none⟩)) (hy : a.eval y = .agg vs) (hc : Blk w g t cs) (hs : vs.size = cs.size)
    (hi : (P.info? ty).map (·.size) = some vs.size) (h1 : vs.all (·.oneCell') = true)
    (h : ∀ w', Blk w' g t vs → (∀ k, k ≠ g → w'.heap[k]? = w.heap[k]?) → (∀ B, B ≤ g → Below B w w') → K (a.put op.dst undef) w') : op.wp P a w K Q :=
  wp_store_mid ty x y ho g 0 vs hx hy (hc.thereN (by omega)) hi h1
    (h _ (hc.setAll vs hs) (fun k hk => setCells_far k hk _ _ _) (fun B hB => setCells_below hB _ _ _ (Below.refl _ _)))
end Go.Proofs.YthkaadcgiplolaaDoor
namespace Go.Proofs.YthkaadcgiplolaaDoor
open Go.RowKit
theorem same_below {P : Program} {f : Nat} {args : Array Value} {W : World} {x : Ending} (h : Calls P f args W fun e w' => e = x ∧ W = w') : Calls P f args W fun e w' => e = x ∧ Below W.heap.size W w' :=
  h.mono fun _ _ ⟨h1, h2⟩ => ⟨h1, h2 ▸ Below.refl _ _⟩
theorem rd_cell {w : World} {b off n : Nat} {v : Value} (h : w.cell? ⟨b, off + n, none⟩ = some v) : b < w.heap.size := by
  rcases Nat.lt_or_ge b w.heap.size with hlt | hge
  · exact hlt
  · simp [World.cell?, Array.getElem?_eq_none hge] at h
end Go.Proofs.YthkaadcgiplolaaDoor
