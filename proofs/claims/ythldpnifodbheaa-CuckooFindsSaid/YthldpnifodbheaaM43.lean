/- Texts that the walks of this seat lean on, put together. -/
import Derived.Deep.CutBlock
import Derived.Deep.DeepCutAuto
import Derived.LoopTactic
import Derived.Handy
import Derived.Test.YthldpnifodbheaaTk
import Derived.Test.YthldpnifodbheaaTl
import Derived.Test.YthldpnifodbheaaM10
import Derived.Test.YthldpnifodbheaaM17
import Derived.Test.YthldpnifodbheaaM28
import Derived.Test.YthldpnifodbheaaM40
import Derived.Test.YthldpnifodbheaaM42
namespace Go.Proofs.Ythldpnifodbheaa
open Go.RowKit Go.Lib
theorem wpI_apps {w : World} {K : Act → World → Prop} {Q : Exit → Act → World → Prop} {o : Oper} {a : Act} (s x : Operand)
    (ho : o.op = .call { callee := .builtin .append, args := #[s, x], argTypes := #[22, 22] })
    (base : Nat) (v : Value) (n : Nat) (zs : List Nat) (hs : a.eval s = v) (hown : w.ownsRow base 3 1 v n (nus .i64 zs))
    (ao : Option Addr) (len cap : Nat) (bs : List Nat) (hx : a.eval x = .slice ao len cap) (hr : Rd w (.slice ao len cap) (nus .i64 bs)) (hn : ao = none → cap = 0) (hlen : n + len ≤ 1000000) (hbase : base ≤ w.heap.size)
    (h : ∀ v' w', w'.ownsRow base 3 1 v' (n + len) (nus .i64 (zs ++ bs)) → w.grownBy w' v.ownBlock → K (a.put o.dst v') w') :
    o.wp Try.prog a w K Q := by
  obtain ⟨i0, hi, hz0, hz1, hz2⟩ := info_parts info3
  obtain ⟨a', cap', e, h1, h2, h3⟩ := hr
  simp only [Value.slice.injEq] at e
  obtain ⟨rfl, he, rfl⟩ := e
  rw [nus_length] at he h1 h3
  subst he
  cases ao with
  | none =>
    obtain rfl := hn rfl
    have hb : bs = [] := by cases bs with | nil => rfl | cons _ _ => simp at h1
    subst hb
    have hrun := run_append_owned_none (P := Try.prog) (w := w) base 22 o.type 3 i0 1 Try.underlying22 hi v n (nus .i64 zs) hown
    unfold Oper.wp
    simp [execOp, ho, resolve, invoke, builtin, hs, hx, hrun, Result.andThen]
    exact h v w (by simpa using hown) (World.grownBy.refl _ _)
  | some ad =>
    refine wp_append_own w s x 22 ho base 3 i0 (.int .i64 0) 1 8 Try.underlying22 hi hz0 hz1 hz2 rfl (by decide) v n (nus .i64 zs) hs hown ad bs.length cap (nus .i64 bs) hx (by rw [nus_length]; omega) ?_ (oneCell_nus _ _) (by unfold maxLen; omega) (by omega) hbase ?_
    · intro j u hj
      rcases h3 with h3 | ⟨b, off, e, hb, hcc⟩
      · rw [h3] at hj; simp at hj
      · cases e
        have hjl : j < (nus .i64 bs).length := (List.getElem?_eq_some_iff.1 hj).1
        rw [nus_length] at hjl
        rw [← hj]
        rw [Addr.add_lit]; exact hcc j hjl
    · intro v' w' hown' hgr _
      exact h v' w' (by rw [nus_append]; exact hown') hgr
theorem row_two {w : World} {base n : Nat} {e : TypeId} {v : Value} {xs : List Value} (h : w.ownsRow base e 1 v n xs) : (v = .slice none 0 0 ∧ n = 0) ∨ ∃ g cap, v = .slice (some ⟨g, 0, none⟩) n cap ∧ n ≤ cap ∧ base ≤ g := by
  rcases h.2 with ⟨rfl, rfl⟩ | ⟨g, cap, cur, rfl, hg, hh, hn, hm, hs, ht⟩
  · exact .inl ⟨rfl, rfl⟩
  · exact .inr ⟨g, cap, rfl, hn, hg⟩
theorem Rd.subP {w : World} {b off len cap : Nat} {k : IntKind} {bs : List Nat} (h : Rd w (.slice (some ⟨b, off, none⟩) len cap) (nus k bs)) (j m : Nat) (hc : j + m ≤ len) :
    Rd w (.slice (if cap = j then some ⟨b, off, none⟩ else some ⟨b, off + j, none⟩) m (cap - j)) (nus k ((bs.drop j).take m)) := by
  by_cases he : cap = j
  · rw [if_pos he]
    have h1 := h
    obtain ⟨a', cap', e, h1, h2, h3⟩ := h1
    simp only [Value.slice.injEq] at e
    obtain ⟨-, rfl, rfl⟩ := e
    have hm : m = 0 := by omega
    subst hm
    exact ⟨some ⟨b, off, none⟩, cap - j, by simp [nus], by simp [nus], by omega, .inl (by simp [nus])⟩
  · rw [if_neg he]; exact h.sub j m hc
theorem wpListI_apps {P : Program} {ops : Array Oper} {rest : List Oper} {o : Oper} {a : Act} {w : World} {Q : Exit → Act → World → Prop} (hP : P = Try.prog) (hw : Region.wanted o (yielded ops a.tmps) = true) (s x : Operand)
    (ho : o.op = .call { callee := .builtin .append, args := #[s, x], argTypes := #[22, 22] })
    (base : Nat) (v : Value) (n : Nat) (zs : List Nat) (hs : a.eval s = v) (hown : w.ownsRow base 3 1 v n (nus .i64 zs))
    (ao : Option Addr) (len cap : Nat) (bs : List Nat) (hx : a.eval x = .slice ao len cap) (hr : Rd w (.slice ao len cap) (nus .i64 bs)) (hn : ao = none → cap = 0) (hlen : n + len ≤ 1000000) (hbase : base ≤ w.heap.size)
    (h : ∀ v' w', w'.ownsRow base 3 1 v' (n + len) (nus .i64 (zs ++ bs)) → w.grownBy w' v.ownBlock → wpList P ops Q rest (a.put o.dst v') w') : wpList P ops Q (o :: rest) a w := by
  subst hP
  exact BigFrame.wpList_want hw fun _ hK => wpI_apps s x ho base v n zs hs hown ao len cap bs hx hr hn hlen hbase fun v' w' h1 h2 => hK _ _ (h v' w' h1 h2)
theorem wpListI_one {P : Program} {ops : Array Oper} {rest : List Oper} {o : Oper} {a : Act} {w : World} {Q : Exit → Act → World → Prop} (hP : P = Try.prog) (hw : Region.wanted o (yielded ops a.tmps) = true) (x : Operand) (ho : o.op = .buildSlice 22 1 #[(0, x)]) (n : Nat) (hx : a.eval x = .int .i64 (n : Int))
    (h : ∀ w', Blk w' w.heap.size 3 (nus .i64 [n]).toArray → Below w.heap.size w w' → wpList P ops Q rest (a.put o.dst (.slice (some ⟨w.heap.size, 0, none⟩) 1 1)) w') : wpList P ops Q (o :: rest) a w := by
  subst hP
  exact BigFrame.wpList_want hw fun _ hK => wpI_one x ho n hx fun w' h1 h2 => hK _ _ (h w' h1 h2)
theorem wpListI_app {P : Program} {ops : Array Oper} {rest : List Oper} {o : Oper} {a : Act} {w : World} {Q : Exit → Act → World → Prop} (hP : P = Try.prog) (hw : Region.wanted o (yielded ops a.tmps) = true) (s x : Operand)
    (ho : o.op = .call { callee := .builtin .append, args := #[s, x], argTypes := #[22, 22] })
    (base : Nat) (v : Value) (n : Nat) (zs : List Nat) (hs : a.eval s = v) (hown : w.ownsRow base 3 1 v n (nus .i64 zs))
    (g m : Nat) (hx : a.eval x = .slice (some ⟨g, 0, none⟩) 1 1) (hb : Blk w g 3 (nus .i64 [m]).toArray) (hlen : n + 1 ≤ 1000000) (hbase : base ≤ w.heap.size)
    (h : ∀ v' w', w'.ownsRow base 3 1 v' (n + 1) (nus .i64 (zs ++ [m])) → w.grownBy w' v.ownBlock → wpList P ops Q rest (a.put o.dst v') w') : wpList P ops Q (o :: rest) a w := by
  subst hP
  exact BigFrame.wpList_want hw fun _ hK => wpI_app s x ho base v n zs hs hown g m hx hb hlen hbase fun v' w' h1 h2 => hK _ _ (h v' w' h1 h2)
set_option maxRecDepth 100000 in
set_option maxHeartbeats 4000000 in
theorem has_any (v : Value) (L : List Nat) (n : Nat) (hl : L.length ≤ 1000000) (w : World) (hv : Rd w v (nus .i64 L)) :
    Calls Try.prog 13 #[v, .int .i64 (n : Int)] w fun e w' => e = .returned (.bool (decide (n ∈ L))) ∧ w = w' := by
  obtain ⟨a, cap, rfl, h1, h2, h3⟩ := hv
  rw [nus_length] at h1 h3 ⊢
  have HC : Hid (∀ i, i < L.length → ∃ b off, a = some ⟨b, off, none⟩ ∧ w.cell? ⟨b, off + i, none⟩ = some (.int .i64 ((L.getD i 0 : Nat) : Int))) := fun i hi => by
    rcases h3 with h3 | ⟨b, off, e, hb, hc⟩
    · have := congrArg List.length h3
      rw [nus_length] at this
      rw [this] at hi
      exact absurd hi (Nat.not_lt_zero _)
    · exact ⟨b, off, e, by rw [hc i hi]; exact nus_get .i64 L i hi⟩
  have HM : Hid (∀ j, j < L.length → decide (n ∈ L.take (j + 1)) = (decide (n ∈ L.take j) || decide (L.getD j 0 = n))) := fun j hj => by
    rw [List.take_add_one, List.getElem?_eq_getElem hj, List.getD_eq_getElem?_getD, List.getElem?_eq_getElem hj]
    rw [Bool.eq_iff_iff, decide_eq_true_iff, Bool.or_eq_true, decide_eq_true_iff, decide_eq_true_iff, List.mem_append]
    exact or_congr Iff.rfl (by simp; exact eq_comm)
  clear h3
  go_enter Try.func13, Try.ntmps13
  go_wp2
  go_loopw [5] (fun i wr => ∃ j : Nat, j ≤ L.length ∧ i = .int .i64 (j : Int) ∧ decide (n ∈ L.take j) = false ∧ Hid (w = wr)) (fun i _ => L.length - (RowKit.intOf i).toNat)
  case atStart => exact ⟨0, Nat.zero_le _, rfl, rfl, rfl⟩
  case round =>
    obtain ⟨j, hj, rfl, hm, hw⟩ := hrel
    obtain rfl := hw.out
    clear hw
    by_cases hlt : j < L.length
    · have d1 : decide ((j : Int) < (L.length : Int)) = true := decide_eq_true (by omega)
      have d2 : decide (j < L.length) = true := decide_eq_true hlt
      have hb2 : 0 ≤ (j : Int) ∧ (j : Int) < (L.length : Int) := by omega
      have w6 : IntKind.i64.wrap ((j : Int) + 1) = ((j + 1 : Nat) : Int) := by rw [IntKind.wrap_i64]; omega
      obtain ⟨b, off, rfl, c0⟩ := HC.out j hlt
      have HMj := lh (HM.out j hlt)
      rw [hm] at HMj
      have hml : L.getD j 0 ∈ L := by rw [List.getD_eq_getElem?_getD, List.getElem?_eq_getElem hlt]; exact List.getElem_mem hlt
      have HML := lh hml
      clear hml
      generalize L.getD j 0 = x at *
      by_cases hx : x = n
      · subst hx
        have HR : Hid (decide (x ∈ L) = true) := decide_eq_true HML.out
        clear HML HMj HC HM
        go_wp2
        go_ret
        exact ⟨by rw [HR.out]; rfl, rfl⟩
      · have q1 : (((x : Nat) : Int) == ((n : Nat) : Int)) = false := by rw [beq_eq_false_iff_ne]; omega
        have q2 : (x == n) = false := by simpa using hx
        rw [decide_eq_false hx] at HMj
        have HMk := lh HMj.out
        clear HML HC HM HMj hx hm
        go_wp2
        go_roundw
        case rel => exact ⟨j + 1, hlt, by go_num, HMk.out, by first | exact lh rfl | exact lh trivial⟩
        case measure => simp [RowKit.intOf]; omega
    · obtain rfl : j = L.length := by omega
      have d1 : decide ((L.length : Int) < (L.length : Int)) = false := decide_eq_false (by omega)
      have d2 : decide (L.length < L.length) = false := decide_eq_false (by omega)
      rw [List.take_length] at hm
      have HR := lh hm
      clear HC HM hm
      go_wp2
      go_ret
      exact ⟨by rw [HR.out]; rfl, rfl⟩
end Go.Proofs.Ythldpnifodbheaa
