/- Texts that the walks of this seat lean on, put together. -/
import Derived.WalkKit
import Derived.LoopTactic
import Derived.Handy
import Derived.Lib.QuietBelow
import Derived.RangeFuncBox
import Derived.Test.YthionipmohbnhaaTk
import Derived.Test.YthionipmohbnhaaM01
import Derived.Test.YthionipmohbnhaaM02
import Derived.Test.YthionipmohbnhaaM04
import Derived.Test.YthionipmohbnhaaM05
import Derived.Test.YthionipmohbnhaaM06
import Derived.Test.YthionipmohbnhaaM09
namespace Go.Proofs.Ythionipmohbnhaa
open Go.RowKit
theorem Try.info3 : (Try.prog.info? 3).map (fun i => (i.zero, i.size, i.bytes)) = some (some (.int .i64 0), 1, 8) := by kernel_rfl
def dfp (a b : List Nat) (i : Nat) : Bool := decide (a.length ≤ i) || (decide (b.length ≤ i) || decide (a.getD i 0 ≠ b.getD i 0))
def dif (a b : List Nat) (k : Nat) : List Nat := (List.range k).filter (dfp a b)
def difs (a b : List Nat) : List Nat := dif a b (max a.length b.length)
theorem dif_yes (a b : List Nat) (k : Nat) (h : dfp a b k = true) : dif a b (k + 1) = dif a b k ++ [k] := by
  unfold dif; rw [List.range_succ, List.filter_append]; simp [h]
theorem dif_no (a b : List Nat) (k : Nat) (h : dfp a b k = false) : dif a b (k + 1) = dif a b k := by
  unfold dif; rw [List.range_succ, List.filter_append]; simp [h]
theorem dif_len (a b : List Nat) (k : Nat) : (dif a b k).length ≤ k := by
  have := List.length_filter_le (dfp a b) (List.range k)
  rwa [List.length_range] at this
theorem own_nilI (w : World) (base : Nat) (e : TypeId) : w.ownsRow base e 1 (.slice none 0 0) (dif [] [] 0).length (nus .i64 []) := ⟨by simp [nus, dif], .inl ⟨rfl, rfl⟩⟩
theorem cell_lt {w : World} {b o : Nat} {v : Value} (h : w.cell? ⟨b, o, none⟩ = some v) : b < w.heap.size := by
  rcases Nat.lt_or_ge b w.heap.size with q | q
  · exact q
  · simp [World.cell?, Array.getElem?_eq_none q] at h
theorem wpList_app_int {w : World} {ops : Array Oper} {rest : List Oper} {o : Oper} {a : Act} {Q : Exit → Act → World → Prop} (hgd : o.guard = none) (s x : Operand)
    (ho : o.op = .call { callee := .builtin .append, args := #[s, x], argTypes := #[32, 32] })
    (base : Nat) (v : Value) (n : Nat) (zs : List Nat) (k : Nat) (hs : a.eval s = v) (hown : w.ownsRow base 3 1 v n (nus .i64 zs)) (g : Nat) (hx : a.eval x = .slice (some ⟨g, 0, none⟩) 1 1)
    (hc : w.cell? ⟨g, 0, none⟩ = some (.int .i64 (k : Int))) (hlen : n ≤ 1000000) (hbase : base ≤ w.heap.size)
    (h : ∀ v' w', w'.ownsRow base 3 1 v' (n + 1) (nus .i64 (zs ++ [k])) → w.grownBy w' v.ownBlock → wpList Try.prog ops Q rest (a.put o.dst v') w') :
    wpList Try.prog ops Q (o :: rest) a w := by
  obtain ⟨i0, hi, hz0, hz1, hz2⟩ := info_parts Try.info3
  refine wpList_append_own w hgd s x 32 ho base 3 i0 (.int .i64 0) 1 8 Try.underlying32 hi hz0 hz1 hz2 rfl (by decide) v n (nus .i64 zs) hs hown ⟨g, 0, none⟩ 1 1 [.int .i64 (k : Int)] hx rfl ?_ ?_ (by unfold maxLen; omega) (by omega) hbase ?_
  · intro j u hj
    match j, hj with
    | 0, hj => simp at hj; subst hj; simpa [Addr.add] using hc
    | j + 1, hj => simp at hj
  · intro u hu; simp at hu; subst hu; rfl
  · intro v' w' h1 h2 _
    exact h v' w' (by rw [nus_append]; exact h1) h2
set_option maxRecDepth 100000 in
set_option maxHeartbeats 4000000 in
theorem differs_any (va vb : Value) (A B : List Nat) (w : World) (ha : Rd w va (nus .u8 A)) (hb : Rd w vb (nus .u8 B)) (hA : A.length ≤ 3000) (hB : B.length ≤ 3000) :
    Calls Try.prog 11 #[va, vb] w fun e w' => ∃ x, e = .returned x ∧ w'.ownsRow w.heap.size 3 1 x (difs A B).length (nus .i64 (difs A B)) ∧ Below w.heap.size w w' := by
  obtain ⟨a1, c1, rfl, h1, h1m⟩ := rd_shape ha
  obtain ⟨a2, c2, rfl, h2, h2m⟩ := rd_shape hb
  obtain ⟨la, hla⟩ : ∃ n, n = A.length := ⟨_, rfl⟩
  obtain ⟨lb, hlb⟩ : ∃ n, n = B.length := ⟨_, rfl⟩
  obtain ⟨m, hm⟩ : ∃ m, m = max A.length B.length := ⟨_, rfl⟩
  have hmI : max (A.length : Int) (B.length : Int) = (m : Int) := by omega
  have hmN : m = max la lb := by omega
  have HD : Hid (difs A B = dif A B m) := by show difs A B = _; rw [hm]; rfl
  have R1 := Lib.hid ha
  have R2 := Lib.hid hb
  rw [← hla, ← hlb] at hmI
  rw [← hla] at R1 h1 hA ⊢
  rw [← hlb] at R2 h2 hB ⊢
  have HA := Lib.hid hla
  have HB := Lib.hid hlb
  have HN := Lib.hid hmN
  have hm3 : m ≤ 3000 := by omega
  clear ha hb hm hmN hla hlb
  rw [HD.out]
  go_enter Try.func11, Try.ntmps11
  go_wp2_with fail
  case inl =>
    obtain rfl : m = lb := by have := HN.out; omega
    go_loopw [5, 12] (fun x i wr => ∃ k : Nat, k ≤ m ∧ i = .int .i64 (k : Int) ∧ wr.ownsRow w.heap.size 3 1 x (dif A B k).length (nus .i64 (dif A B k)) ∧ Below w.heap.size w wr) (fun _ i _ => m - (intOf i).toNat)
    case atStart => exact ⟨0, Nat.zero_le _, rfl, own_nilI _ _ _, Below.refl _ _⟩
    case round =>
      obtain ⟨k, hk, rfl, ho, hy⟩ := hrel
      have O := Lib.hid ho
      have K := Lib.hid hy
      clear ho hy
      by_cases hkm : k < m
      · have hq1 := dif_len A B k
        have hkw : IntKind.i64.wrap ((k : Int) + 1) = ((k + 1 : Nat) : Int) := by rw [IntKind.wrap_i64]; omega
        have hdm : decide ((m : Int) ≤ (k : Int)) = false := decide_eq_false (by omega)
        have hdn : decide (m ≤ k) = false := decide_eq_false (by omega)
        by_cases hs : la ≤ k
        · have HP : Hid (dfp A B k = true) := by show _ = true; unfold dfp; rw [← HA.out, decide_eq_true hs]; simp
          have hds : decide ((la : Int) ≤ (k : Int)) = true := decide_eq_true (by omega)
          have hdt : decide (la ≤ k) = true := decide_eq_true hs
          go_wp2_with fail
          refine wp_region_held (S := (fun w' : World => Below (wr.heap.size) wr w')) (by kernel_rfl) ?_
          change wpAnyH _ _ _ _ _ _ _ _ wr.drew
          have hy : Below wr.heap.size wr wr.drew := (Below.refl _ _).drew
          have hE0 : Below (wr.heap.size) wr wr.drew := (Below.refl _ _).drew
          clear hy
          generalize wr.drew = Y5x0 at hE0  ⊢
          have E0 := Lib.hid hE0
          clear hE0
          refine tkA 0 (?_) ?_ E0.out ?_
          rotate_left
          · (intro w1 hS; go_simp; try with_reducible rfl)
          simp only [Act.put, tS1, tS2, tS3]
          refine tkA 1 (?_) ?_ E0.out ?_
          rotate_left
          · (intro w1 hS; go_simp; try with_reducible rfl)
          simp only [Act.put, tS1, tS2, tS3]
          refine tkA 2 (?_) ?_ E0.out ?_
          rotate_left
          · (intro w1 hS; go_simp; try with_reducible rfl)
          simp only [Act.put, tS1, tS2, tS3]
          refine tkA 3 (?_) ?_ E0.out ?_
          rotate_left
          · (intro w1 hS; go_simp; try with_reducible rfl)
          simp only [Act.put, tS1, tS2, tS3]
          refine tkA 4 (?_) ?_ E0.out ?_
          rotate_left
          · (intro w1 hS; go_simp; try with_reducible rfl)
          simp only [Act.put, tS1, tS2, tS3]
          refine tkN 5 E0.out ?_
          simp only [Act.put, tS1, tS2, tS3]
          refine tkN 6 E0.out ?_
          simp only [Act.put, tS1, tS2, tS3]
          refine tkN 7 E0.out ?_
          simp only [Act.put, tS1, tS2, tS3]
          refine tkN 8 E0.out ?_
          simp only [Act.put, tS1, tS2, tS3]
          refine tkA 9 (?_) ?_ E0.out ?_
          rotate_left
          · (intro w1 hS; go_simp; try with_reducible rfl)
          simp only [Act.put, tS1, tS2, tS3]
          refine tkA 10 (?_) ?_ E0.out ?_
          rotate_left
          · (intro w1 hS; go_simp; try with_reducible rfl)
          simp only [Act.put, tS1, tS2, tS3]
          refine tkN 11 E0.out ?_
          simp only [Act.put, tS1, tS2, tS3]
          refine tkN 12 E0.out ?_
          simp only [Act.put, tS1, tS2, tS3]
          refine tkN 13 E0.out ?_
          simp only [Act.put, tS1, tS2, tS3]
          refine tkN 14 E0.out ?_
          simp only [Act.put, tS1, tS2, tS3]
          refine tkN 15 E0.out ?_
          simp only [Act.put, tS1, tS2, tS3]
          refine tkN 16 E0.out ?_
          simp only [Act.put, tS1, tS2, tS3]
          refine tkN 17 E0.out ?_
          simp only [Act.put, tS1, tS2, tS3]
          refine tkN 18 E0.out ?_
          simp only [Act.put, tS1, tS2, tS3]
          refine tkN 19 E0.out ?_
          simp only [Act.put, tS1, tS2, tS3]
          refine tkA 20 (?_) ?_ E0.out ?_
          rotate_left
          · (intro w1 hS; go_simp; try with_reducible rfl)
          simp only [Act.put, tS1, tS2, tS3]
          refine wpAnyH_done (by kernel_rfl) ?_ _
          have hy := E0.out
          replace K := Lib.hid (K.out.trans (hy.mono K.out.size))
          replace O := Lib.hid (row_under O.out hy)
          clear hy E0
          have hal := (Below.refl Y5x0.heap.size Y5x0).alloc (Nat.le_refl _) (.cells #[.int .i64 (k : Int)] 3)
          have O1 := Lib.hid (row_under O.out hal)
          have K1 := Lib.hid (K.out.trans (hal.mono K.out.size))
          have CG := Lib.hid (show (Y5x0.alloc (.cells #[.int .i64 (k : Int)] 3)).cell? ⟨Y5x0.heap.size, 0, none⟩ = some (.int .i64 (k : Int)) from (Boxed.new Y5x0 3 (.int .i64 (k : Int))).cell)
          clear hal O K
          go_wp2_with (first | (at_builtin; refine wpList_app_int rfl (.tmp 36) (.tmp 38) rfl w.heap.size _ _ (dif A B k) k rfl O1.out _ rfl CG.out ?ca ?cb ?_))
          case ca => omega
          case cb => have := K1.out.size; omega
          intro v2 w2 o2 g2
          have K2 := Lib.hid (K1.out.grown g2 K1.out.size (fun k e => (O1.out.lt k e).1))
          have O2 : Hid (w2.ownsRow w.heap.size 3 1 v2 (dif A B (k + 1)).length (nus .i64 (dif A B (k + 1)))) := by rw [dif_yes A B k HP.out, List.length_append]; exact o2
          clear o2 g2 O1 K1 CG
          go_wp2
          go_roundw
          case rel => exact ⟨k + 1, by omega, by go_num, O2.out, K2.out⟩
          case measure => simp [intOf]; omega
        · have hds : decide ((la : Int) ≤ (k : Int)) = false := decide_eq_false (by omega)
          have hdt : decide (la ≤ k) = false := decide_eq_false hs
          have ka : k < la := by omega
          have kb : k < m := by omega
          obtain ⟨b1, o1, rfl, q1⟩ := (R1.out.below K.out).cells (by omega)
          obtain ⟨b2, o2, rfl, q2⟩ := (R2.out.below K.out).cells (by omega)
          have C1 := Lib.hid (q1 k ka)
          have C2 := Lib.hid (q2 k kb)
          have B1 := Lib.hid (cell_lt C1.out)
          have B2 := Lib.hid (cell_lt C2.out)
          clear q1 q2
          have HPX : Hid (dfp A B k = decide (A.getD k 0 ≠ B.getD k 0)) := by
            show _ = _
            unfold dfp; rw [← HA.out, ← HB.out, decide_eq_false (show ¬ la ≤ k by omega), decide_eq_false (show ¬ m ≤ k by omega)]; rfl
          generalize A.getD k 0 = x at *
          generalize B.getD k 0 = y at *
          have ki : (k : Int) < (la : Int) := by omega
          have kj : (k : Int) < (m : Int) := by omega
          by_cases hxy : x = y
          · have HP : Hid (dfp A B k = false) := HPX.out.trans (decide_eq_false (fun h => h hxy))
            have e1 : ((x : Int) == (y : Int)) = true := by simp [hxy]
            have e2 : ((x : Int) != (y : Int)) = false := by simp [hxy]
            have e3 : (x == y) = true := by simp [hxy]
            have e4 : (x != y) = false := by simp [hxy]
            clear HPX hxy
            go_wp2_with fail
            refine wp_region_held (S := (fun w' : World => Below (wr.heap.size) wr w')) (by kernel_rfl) ?_
            change wpAnyH _ _ _ _ _ _ _ _ wr.drew
            have hy : Below wr.heap.size wr wr.drew := (Below.refl _ _).drew
            have hE0 : Below (wr.heap.size) wr wr.drew := (Below.refl _ _).drew
            clear hy
            generalize wr.drew = Y5x0 at hE0  ⊢
            have E0 := Lib.hid hE0
            clear hE0
            refine tkA 0 (?_) ?_ E0.out ?_
            rotate_left
            · (intro w1 hS; go_simp; try with_reducible rfl)
            simp only [Act.put, tS1, tS2, tS3]
            refine tkA 1 (?_) ?_ E0.out ?_
            rotate_left
            · (intro w1 hS; go_simp; try with_reducible rfl)
            simp only [Act.put, tS1, tS2, tS3]
            refine tkA 2 (?_) ?_ E0.out ?_
            rotate_left
            · (intro w1 hS; go_simp; try with_reducible rfl)
            simp only [Act.put, tS1, tS2, tS3]
            refine tkA 3 (?_) ?_ E0.out ?_
            rotate_left
            · (intro w1 hS; go_simp; try with_reducible rfl)
            simp only [Act.put, tS1, tS2, tS3]
            refine tkA 4 (?_) ?_ E0.out ?_
            rotate_left
            · (intro w1 hS; go_simp; try with_reducible rfl)
            simp only [Act.put, tS1, tS2, tS3]
            refine tkA 5 (?_) ?_ E0.out ?_
            rotate_left
            · (intro w1 hS; go_simp; try with_reducible rfl)
            simp only [Act.put, tS1, tS2, tS3]
            refine tkA 6 (?_) ?_ E0.out ?_
            rotate_left
            · (intro w1 hS; go_simp; try with_reducible rfl)
            simp only [Act.put, tS1, tS2, tS3]
            refine tkA 7 (?_) ?_ E0.out ?_
            rotate_left
            · (intro w1 hS; go_simp; try with_reducible rfl)
            simp only [Act.put, tS1, tS2, tS3]
            refine tkA 8 (?_) ?_ E0.out ?_
            rotate_left
            · (intro w1 hS; go_simp; try with_reducible rfl)
            simp only [Act.put, tS1, tS2, tS3]
            refine tkA 9 (?_) ?_ E0.out ?_
            rotate_left
            · (intro w1 hS; go_simp; try with_reducible rfl)
            simp only [Act.put, tS1, tS2, tS3]
            refine tkA 10 (?_) ?_ E0.out ?_
            rotate_left
            · (intro w1 hS; go_simp; try with_reducible rfl)
            simp only [Act.put, tS1, tS2, tS3]
            refine tkA 11 (?_) ?_ E0.out ?_
            rotate_left
            · (intro w1 hS; go_simp; try with_reducible rfl)
            simp only [Act.put, tS1, tS2, tS3]
            refine tkA 12 (?_) ?_ E0.out ?_
            rotate_left
            · (intro w1 hS; go_simp; try with_reducible rfl)
            simp only [Act.put, tS1, tS2, tS3]
            refine tkA 13 (?_) ?_ E0.out ?_
            rotate_left
            · (intro w1 hS; go_simp; try with_reducible rfl)
            simp only [Act.put, tS1, tS2, tS3]
            refine tkA 14 (?_) ?_ E0.out ?_
            rotate_left
            · (intro w1 hS; have hW := hS; have q := (hW.cell (p := ⟨b1, o1 + k, none⟩) B1.out).trans C1.out; clear hW hS; go_simp; try with_reducible rfl)
            simp only [Act.put, tS1, tS2, tS3]
            refine tkA 15 (?_) ?_ E0.out ?_
            rotate_left
            · (intro w1 hS; go_simp; try with_reducible rfl)
            simp only [Act.put, tS1, tS2, tS3]
            refine tkA 16 (?_) ?_ E0.out ?_
            rotate_left
            · (intro w1 hS; go_simp; try with_reducible rfl)
            simp only [Act.put, tS1, tS2, tS3]
            refine tkA 17 (?_) ?_ E0.out ?_
            rotate_left
            · (intro w1 hS; go_simp; try with_reducible rfl)
            simp only [Act.put, tS1, tS2, tS3]
            refine tkA 18 (?_) ?_ E0.out ?_
            rotate_left
            · (intro w1 hS; have hW := hS; have q := (hW.cell (p := ⟨b2, o2 + k, none⟩) B2.out).trans C2.out; clear hW hS; go_simp; try with_reducible rfl)
            simp only [Act.put, tS1, tS2, tS3]
            refine tkA 19 (?_) ?_ E0.out ?_
            rotate_left
            · (intro w1 hS; go_simp; try with_reducible rfl)
            simp only [Act.put, tS1, tS2, tS3]
            refine tkA 20 (?_) ?_ E0.out ?_
            rotate_left
            · (intro w1 hS; go_simp; try with_reducible rfl)
            simp only [Act.put, tS1, tS2, tS3]
            refine wpAnyH_done (by kernel_rfl) ?_ _
            have hy := E0.out
            replace K := Lib.hid (K.out.trans (hy.mono K.out.size))
            replace O := Lib.hid (row_under O.out hy)
            clear hy E0
            have O2 : Hid (Y5x0.ownsRow w.heap.size 3 1 u5 (dif A B (k + 1)).length (nus .i64 (dif A B (k + 1)))) := by show World.ownsRow _ _ _ _ _ _ _; rw [dif_no A B k HP.out]; exact O.out
            clear O
            go_wp2
            go_roundw
            case rel => exact ⟨k + 1, by omega, by go_num, O2.out, K.out⟩
            case measure => simp [intOf]; omega
          · have HP : Hid (dfp A B k = true) := HPX.out.trans (decide_eq_true hxy)
            have e1 : ((x : Int) == (y : Int)) = false := by simp; omega
            have e2 : ((x : Int) != (y : Int)) = true := by simp; omega
            have e3 : (x == y) = false := by simp [hxy]
            have e4 : (x != y) = true := by simp [hxy]
            clear HPX hxy
            go_wp2_with fail
            refine wp_region_held (S := (fun w' : World => Below (wr.heap.size) wr w')) (by kernel_rfl) ?_
            change wpAnyH _ _ _ _ _ _ _ _ wr.drew
            have hy : Below wr.heap.size wr wr.drew := (Below.refl _ _).drew
            have hE0 : Below (wr.heap.size) wr wr.drew := (Below.refl _ _).drew
            clear hy
            generalize wr.drew = Y5x0 at hE0  ⊢
            have E0 := Lib.hid hE0
            clear hE0
            refine tkA 0 (?_) ?_ E0.out ?_
            rotate_left
            · (intro w1 hS; go_simp; try with_reducible rfl)
            simp only [Act.put, tS1, tS2, tS3]
            refine tkA 1 (?_) ?_ E0.out ?_
            rotate_left
            · (intro w1 hS; go_simp; try with_reducible rfl)
            simp only [Act.put, tS1, tS2, tS3]
            refine tkA 2 (?_) ?_ E0.out ?_
            rotate_left
            · (intro w1 hS; go_simp; try with_reducible rfl)
            simp only [Act.put, tS1, tS2, tS3]
            refine tkA 3 (?_) ?_ E0.out ?_
            rotate_left
            · (intro w1 hS; go_simp; try with_reducible rfl)
            simp only [Act.put, tS1, tS2, tS3]
            refine tkA 4 (?_) ?_ E0.out ?_
            rotate_left
            · (intro w1 hS; go_simp; try with_reducible rfl)
            simp only [Act.put, tS1, tS2, tS3]
            refine tkA 5 (?_) ?_ E0.out ?_
            rotate_left
            · (intro w1 hS; go_simp; try with_reducible rfl)
            simp only [Act.put, tS1, tS2, tS3]
            refine tkA 6 (?_) ?_ E0.out ?_
            rotate_left
            · (intro w1 hS; go_simp; try with_reducible rfl)
            simp only [Act.put, tS1, tS2, tS3]
            refine tkA 7 (?_) ?_ E0.out ?_
            rotate_left
            · (intro w1 hS; go_simp; try with_reducible rfl)
            simp only [Act.put, tS1, tS2, tS3]
            refine tkA 8 (?_) ?_ E0.out ?_
            rotate_left
            · (intro w1 hS; go_simp; try with_reducible rfl)
            simp only [Act.put, tS1, tS2, tS3]
            refine tkA 9 (?_) ?_ E0.out ?_
            rotate_left
            · (intro w1 hS; go_simp; try with_reducible rfl)
            simp only [Act.put, tS1, tS2, tS3]
            refine tkA 10 (?_) ?_ E0.out ?_
            rotate_left
            · (intro w1 hS; go_simp; try with_reducible rfl)
            simp only [Act.put, tS1, tS2, tS3]
            refine tkA 11 (?_) ?_ E0.out ?_
            rotate_left
            · (intro w1 hS; go_simp; try with_reducible rfl)
            simp only [Act.put, tS1, tS2, tS3]
            refine tkA 12 (?_) ?_ E0.out ?_
            rotate_left
            · (intro w1 hS; go_simp; try with_reducible rfl)
            simp only [Act.put, tS1, tS2, tS3]
            refine tkA 13 (?_) ?_ E0.out ?_
            rotate_left
            · (intro w1 hS; go_simp; try with_reducible rfl)
            simp only [Act.put, tS1, tS2, tS3]
            refine tkA 14 (?_) ?_ E0.out ?_
            rotate_left
            · (intro w1 hS; have hW := hS; have q := (hW.cell (p := ⟨b1, o1 + k, none⟩) B1.out).trans C1.out; clear hW hS; go_simp; try with_reducible rfl)
            simp only [Act.put, tS1, tS2, tS3]
            refine tkA 15 (?_) ?_ E0.out ?_
            rotate_left
            · (intro w1 hS; go_simp; try with_reducible rfl)
            simp only [Act.put, tS1, tS2, tS3]
            refine tkA 16 (?_) ?_ E0.out ?_
            rotate_left
            · (intro w1 hS; go_simp; try with_reducible rfl)
            simp only [Act.put, tS1, tS2, tS3]
            refine tkA 17 (?_) ?_ E0.out ?_
            rotate_left
            · (intro w1 hS; go_simp; try with_reducible rfl)
            simp only [Act.put, tS1, tS2, tS3]
            refine tkA 18 (?_) ?_ E0.out ?_
            rotate_left
            · (intro w1 hS; have hW := hS; have q := (hW.cell (p := ⟨b2, o2 + k, none⟩) B2.out).trans C2.out; clear hW hS; go_simp; try with_reducible rfl)
            simp only [Act.put, tS1, tS2, tS3]
            refine tkA 19 (?_) ?_ E0.out ?_
            rotate_left
            · (intro w1 hS; go_simp; try with_reducible rfl)
            simp only [Act.put, tS1, tS2, tS3]
            refine tkA 20 (?_) ?_ E0.out ?_
            rotate_left
            · (intro w1 hS; go_simp; try with_reducible rfl)
            simp only [Act.put, tS1, tS2, tS3]
            refine wpAnyH_done (by kernel_rfl) ?_ _
            have hy := E0.out
            replace K := Lib.hid (K.out.trans (hy.mono K.out.size))
            replace O := Lib.hid (row_under O.out hy)
            clear hy E0
            have hal := (Below.refl Y5x0.heap.size Y5x0).alloc (Nat.le_refl _) (.cells #[.int .i64 (k : Int)] 3)
            have O1 := Lib.hid (row_under O.out hal)
            have K1 := Lib.hid (K.out.trans (hal.mono K.out.size))
            have CG := Lib.hid (show (Y5x0.alloc (.cells #[.int .i64 (k : Int)] 3)).cell? ⟨Y5x0.heap.size, 0, none⟩ = some (.int .i64 (k : Int)) from (Boxed.new Y5x0 3 (.int .i64 (k : Int))).cell)
            clear hal O K
            go_wp2_with (first | (at_builtin; refine wpList_app_int rfl (.tmp 36) (.tmp 38) rfl w.heap.size _ _ (dif A B k) k rfl O1.out _ rfl CG.out ?ca ?cb ?_))
            case ca => omega
            case cb => have := K1.out.size; omega
            intro v2 w2 o2 g2
            have K2 := Lib.hid (K1.out.grown g2 K1.out.size (fun k e => (O1.out.lt k e).1))
            have O2 : Hid (w2.ownsRow w.heap.size 3 1 v2 (dif A B (k + 1)).length (nus .i64 (dif A B (k + 1)))) := by rw [dif_yes A B k HP.out, List.length_append]; exact o2
            clear o2 g2 O1 K1 CG
            go_wp2
            go_roundw
            case rel => exact ⟨k + 1, by omega, by go_num, O2.out, K2.out⟩
            case measure => simp [intOf]; omega
      · obtain rfl : m = k := by omega
        clear hkm hk
        go_wp2
        go_ret
        exact ⟨_, rfl, O.out, K.out⟩
  case inr =>
    obtain rfl : m = la := by have := HN.out; omega
    go_loopw [5, 12] (fun x i wr => ∃ k : Nat, k ≤ m ∧ i = .int .i64 (k : Int) ∧ wr.ownsRow w.heap.size 3 1 x (dif A B k).length (nus .i64 (dif A B k)) ∧ Below w.heap.size w wr) (fun _ i _ => m - (intOf i).toNat)
    case atStart => exact ⟨0, Nat.zero_le _, rfl, own_nilI _ _ _, Below.refl _ _⟩
    case round =>
      obtain ⟨k, hk, rfl, ho, hy⟩ := hrel
      have O := Lib.hid ho
      have K := Lib.hid hy
      clear ho hy
      by_cases hkm : k < m
      · have hq1 := dif_len A B k
        have hkw : IntKind.i64.wrap ((k : Int) + 1) = ((k + 1 : Nat) : Int) := by rw [IntKind.wrap_i64]; omega
        have hdm : decide ((m : Int) ≤ (k : Int)) = false := decide_eq_false (by omega)
        have hdn : decide (m ≤ k) = false := decide_eq_false (by omega)
        by_cases hs : lb ≤ k
        · have HP : Hid (dfp A B k = true) := by show _ = true; unfold dfp; rw [← HB.out, decide_eq_true hs]; simp
          have hds : decide ((lb : Int) ≤ (k : Int)) = true := decide_eq_true (by omega)
          have hdt : decide (lb ≤ k) = true := decide_eq_true hs
          go_wp2_with fail
          refine wp_region_held (S := (fun w' : World => Below (wr.heap.size) wr w')) (by kernel_rfl) ?_
          change wpAnyH _ _ _ _ _ _ _ _ wr.drew
          have hy : Below wr.heap.size wr wr.drew := (Below.refl _ _).drew
          have hE0 : Below (wr.heap.size) wr wr.drew := (Below.refl _ _).drew
          clear hy
          generalize wr.drew = Y5x0 at hE0  ⊢
          have E0 := Lib.hid hE0
          clear hE0
          refine tkA 0 (?_) ?_ E0.out ?_
          rotate_left
          · (intro w1 hS; go_simp; try with_reducible rfl)
          simp only [Act.put, tS1, tS2, tS3]
          refine tkA 1 (?_) ?_ E0.out ?_
          rotate_left
          · (intro w1 hS; go_simp; try with_reducible rfl)
          simp only [Act.put, tS1, tS2, tS3]
          refine tkA 2 (?_) ?_ E0.out ?_
          rotate_left
          · (intro w1 hS; go_simp; try with_reducible rfl)
          simp only [Act.put, tS1, tS2, tS3]
          refine tkA 3 (?_) ?_ E0.out ?_
          rotate_left
          · (intro w1 hS; go_simp; try with_reducible rfl)
          simp only [Act.put, tS1, tS2, tS3]
          refine tkA 4 (?_) ?_ E0.out ?_
          rotate_left
          · (intro w1 hS; go_simp; try with_reducible rfl)
          simp only [Act.put, tS1, tS2, tS3]
          refine tkA 5 (?_) ?_ E0.out ?_
          rotate_left
          · (intro w1 hS; go_simp; try with_reducible rfl)
          simp only [Act.put, tS1, tS2, tS3]
          refine tkA 6 (?_) ?_ E0.out ?_
          rotate_left
          · (intro w1 hS; go_simp; try with_reducible rfl)
          simp only [Act.put, tS1, tS2, tS3]
          refine tkA 7 (?_) ?_ E0.out ?_
          rotate_left
          · (intro w1 hS; go_simp; try with_reducible rfl)
          simp only [Act.put, tS1, tS2, tS3]
          refine tkA 8 (?_) ?_ E0.out ?_
          rotate_left
          · (intro w1 hS; go_simp; try with_reducible rfl)
          simp only [Act.put, tS1, tS2, tS3]
          refine tkA 9 (?_) ?_ E0.out ?_
          rotate_left
          · (intro w1 hS; go_simp; try with_reducible rfl)
          simp only [Act.put, tS1, tS2, tS3]
          refine tkA 10 (?_) ?_ E0.out ?_
          rotate_left
          · (intro w1 hS; go_simp; try with_reducible rfl)
          simp only [Act.put, tS1, tS2, tS3]
          refine tkN 11 E0.out ?_
          simp only [Act.put, tS1, tS2, tS3]
          refine tkN 12 E0.out ?_
          simp only [Act.put, tS1, tS2, tS3]
          refine tkN 13 E0.out ?_
          simp only [Act.put, tS1, tS2, tS3]
          refine tkN 14 E0.out ?_
          simp only [Act.put, tS1, tS2, tS3]
          refine tkN 15 E0.out ?_
          simp only [Act.put, tS1, tS2, tS3]
          refine tkN 16 E0.out ?_
          simp only [Act.put, tS1, tS2, tS3]
          refine tkN 17 E0.out ?_
          simp only [Act.put, tS1, tS2, tS3]
          refine tkN 18 E0.out ?_
          simp only [Act.put, tS1, tS2, tS3]
          refine tkN 19 E0.out ?_
          simp only [Act.put, tS1, tS2, tS3]
          refine tkA 20 (?_) ?_ E0.out ?_
          rotate_left
          · (intro w1 hS; go_simp; try with_reducible rfl)
          simp only [Act.put, tS1, tS2, tS3]
          refine wpAnyH_done (by kernel_rfl) ?_ _
          have hy := E0.out
          replace K := Lib.hid (K.out.trans (hy.mono K.out.size))
          replace O := Lib.hid (row_under O.out hy)
          clear hy E0
          have hal := (Below.refl Y5x0.heap.size Y5x0).alloc (Nat.le_refl _) (.cells #[.int .i64 (k : Int)] 3)
          have O1 := Lib.hid (row_under O.out hal)
          have K1 := Lib.hid (K.out.trans (hal.mono K.out.size))
          have CG := Lib.hid (show (Y5x0.alloc (.cells #[.int .i64 (k : Int)] 3)).cell? ⟨Y5x0.heap.size, 0, none⟩ = some (.int .i64 (k : Int)) from (Boxed.new Y5x0 3 (.int .i64 (k : Int))).cell)
          clear hal O K
          go_wp2_with (first | (at_builtin; refine wpList_app_int rfl (.tmp 36) (.tmp 38) rfl w.heap.size _ _ (dif A B k) k rfl O1.out _ rfl CG.out ?ca ?cb ?_))
          case ca => omega
          case cb => have := K1.out.size; omega
          intro v2 w2 o2 g2
          have K2 := Lib.hid (K1.out.grown g2 K1.out.size (fun k e => (O1.out.lt k e).1))
          have O2 : Hid (w2.ownsRow w.heap.size 3 1 v2 (dif A B (k + 1)).length (nus .i64 (dif A B (k + 1)))) := by rw [dif_yes A B k HP.out, List.length_append]; exact o2
          clear o2 g2 O1 K1 CG
          go_wp2
          go_roundw
          case rel => exact ⟨k + 1, by omega, by go_num, O2.out, K2.out⟩
          case measure => simp [intOf]; omega
        · have hds : decide ((lb : Int) ≤ (k : Int)) = false := decide_eq_false (by omega)
          have hdt : decide (lb ≤ k) = false := decide_eq_false hs
          have ka : k < m := by omega
          have kb : k < lb := by omega
          obtain ⟨b1, o1, rfl, q1⟩ := (R1.out.below K.out).cells (by omega)
          obtain ⟨b2, o2, rfl, q2⟩ := (R2.out.below K.out).cells (by omega)
          have C1 := Lib.hid (q1 k ka)
          have C2 := Lib.hid (q2 k kb)
          have B1 := Lib.hid (cell_lt C1.out)
          have B2 := Lib.hid (cell_lt C2.out)
          clear q1 q2
          have HPX : Hid (dfp A B k = decide (A.getD k 0 ≠ B.getD k 0)) := by
            show _ = _
            unfold dfp; rw [← HA.out, ← HB.out, decide_eq_false (show ¬ m ≤ k by omega), decide_eq_false (show ¬ lb ≤ k by omega)]; rfl
          generalize A.getD k 0 = x at *
          generalize B.getD k 0 = y at *
          have ki : (k : Int) < (m : Int) := by omega
          have kj : (k : Int) < (lb : Int) := by omega
          by_cases hxy : x = y
          · have HP : Hid (dfp A B k = false) := HPX.out.trans (decide_eq_false (fun h => h hxy))
            have e1 : ((x : Int) == (y : Int)) = true := by simp [hxy]
            have e2 : ((x : Int) != (y : Int)) = false := by simp [hxy]
            have e3 : (x == y) = true := by simp [hxy]
            have e4 : (x != y) = false := by simp [hxy]
            clear HPX hxy
            go_wp2_with fail
            refine wp_region_held (S := (fun w' : World => Below (wr.heap.size) wr w')) (by kernel_rfl) ?_
            change wpAnyH _ _ _ _ _ _ _ _ wr.drew
            have hy : Below wr.heap.size wr wr.drew := (Below.refl _ _).drew
            have hE0 : Below (wr.heap.size) wr wr.drew := (Below.refl _ _).drew
            clear hy
            generalize wr.drew = Y5x0 at hE0  ⊢
            have E0 := Lib.hid hE0
            clear hE0
            refine tkA 0 (?_) ?_ E0.out ?_
            rotate_left
            · (intro w1 hS; go_simp; try with_reducible rfl)
            simp only [Act.put, tS1, tS2, tS3]
            refine tkA 1 (?_) ?_ E0.out ?_
            rotate_left
            · (intro w1 hS; go_simp; try with_reducible rfl)
            simp only [Act.put, tS1, tS2, tS3]
            refine tkA 2 (?_) ?_ E0.out ?_
            rotate_left
            · (intro w1 hS; go_simp; try with_reducible rfl)
            simp only [Act.put, tS1, tS2, tS3]
            refine tkA 3 (?_) ?_ E0.out ?_
            rotate_left
            · (intro w1 hS; go_simp; try with_reducible rfl)
            simp only [Act.put, tS1, tS2, tS3]
            refine tkA 4 (?_) ?_ E0.out ?_
            rotate_left
            · (intro w1 hS; go_simp; try with_reducible rfl)
            simp only [Act.put, tS1, tS2, tS3]
            refine tkA 5 (?_) ?_ E0.out ?_
            rotate_left
            · (intro w1 hS; go_simp; try with_reducible rfl)
            simp only [Act.put, tS1, tS2, tS3]
            refine tkA 6 (?_) ?_ E0.out ?_
            rotate_left
            · (intro w1 hS; go_simp; try with_reducible rfl)
            simp only [Act.put, tS1, tS2, tS3]
            refine tkA 7 (?_) ?_ E0.out ?_
            rotate_left
            · (intro w1 hS; go_simp; try with_reducible rfl)
            simp only [Act.put, tS1, tS2, tS3]
            refine tkA 8 (?_) ?_ E0.out ?_
            rotate_left
            · (intro w1 hS; go_simp; try with_reducible rfl)
            simp only [Act.put, tS1, tS2, tS3]
            refine tkA 9 (?_) ?_ E0.out ?_
            rotate_left
            · (intro w1 hS; go_simp; try with_reducible rfl)
            simp only [Act.put, tS1, tS2, tS3]
            refine tkA 10 (?_) ?_ E0.out ?_
            rotate_left
            · (intro w1 hS; go_simp; try with_reducible rfl)
            simp only [Act.put, tS1, tS2, tS3]
            refine tkA 11 (?_) ?_ E0.out ?_
            rotate_left
            · (intro w1 hS; go_simp; try with_reducible rfl)
            simp only [Act.put, tS1, tS2, tS3]
            refine tkA 12 (?_) ?_ E0.out ?_
            rotate_left
            · (intro w1 hS; go_simp; try with_reducible rfl)
            simp only [Act.put, tS1, tS2, tS3]
            refine tkA 13 (?_) ?_ E0.out ?_
            rotate_left
            · (intro w1 hS; go_simp; try with_reducible rfl)
            simp only [Act.put, tS1, tS2, tS3]
            refine tkA 14 (?_) ?_ E0.out ?_
            rotate_left
            · (intro w1 hS; have hW := hS; have q := (hW.cell (p := ⟨b1, o1 + k, none⟩) B1.out).trans C1.out; clear hW hS; go_simp; try with_reducible rfl)
            simp only [Act.put, tS1, tS2, tS3]
            refine tkA 15 (?_) ?_ E0.out ?_
            rotate_left
            · (intro w1 hS; go_simp; try with_reducible rfl)
            simp only [Act.put, tS1, tS2, tS3]
            refine tkA 16 (?_) ?_ E0.out ?_
            rotate_left
            · (intro w1 hS; go_simp; try with_reducible rfl)
            simp only [Act.put, tS1, tS2, tS3]
            refine tkA 17 (?_) ?_ E0.out ?_
            rotate_left
            · (intro w1 hS; go_simp; try with_reducible rfl)
            simp only [Act.put, tS1, tS2, tS3]
            refine tkA 18 (?_) ?_ E0.out ?_
            rotate_left
            · (intro w1 hS; have hW := hS; have q := (hW.cell (p := ⟨b2, o2 + k, none⟩) B2.out).trans C2.out; clear hW hS; go_simp; try with_reducible rfl)
            simp only [Act.put, tS1, tS2, tS3]
            refine tkA 19 (?_) ?_ E0.out ?_
            rotate_left
            · (intro w1 hS; go_simp; try with_reducible rfl)
            simp only [Act.put, tS1, tS2, tS3]
            refine tkA 20 (?_) ?_ E0.out ?_
            rotate_left
            · (intro w1 hS; go_simp; try with_reducible rfl)
            simp only [Act.put, tS1, tS2, tS3]
            refine wpAnyH_done (by kernel_rfl) ?_ _
            have hy := E0.out
            replace K := Lib.hid (K.out.trans (hy.mono K.out.size))
            replace O := Lib.hid (row_under O.out hy)
            clear hy E0
            have O2 : Hid (Y5x0.ownsRow w.heap.size 3 1 u5 (dif A B (k + 1)).length (nus .i64 (dif A B (k + 1)))) := by show World.ownsRow _ _ _ _ _ _ _; rw [dif_no A B k HP.out]; exact O.out
            clear O
            go_wp2
            go_roundw
            case rel => exact ⟨k + 1, by omega, by go_num, O2.out, K.out⟩
            case measure => simp [intOf]; omega
          · have HP : Hid (dfp A B k = true) := HPX.out.trans (decide_eq_true hxy)
            have e1 : ((x : Int) == (y : Int)) = false := by simp; omega
            have e2 : ((x : Int) != (y : Int)) = true := by simp; omega
            have e3 : (x == y) = false := by simp [hxy]
            have e4 : (x != y) = true := by simp [hxy]
            clear HPX hxy
            go_wp2_with fail
            refine wp_region_held (S := (fun w' : World => Below (wr.heap.size) wr w')) (by kernel_rfl) ?_
            change wpAnyH _ _ _ _ _ _ _ _ wr.drew
            have hy : Below wr.heap.size wr wr.drew := (Below.refl _ _).drew
            have hE0 : Below (wr.heap.size) wr wr.drew := (Below.refl _ _).drew
            clear hy
            generalize wr.drew = Y5x0 at hE0  ⊢
            have E0 := Lib.hid hE0
            clear hE0
            refine tkA 0 (?_) ?_ E0.out ?_
            rotate_left
            · (intro w1 hS; go_simp; try with_reducible rfl)
            simp only [Act.put, tS1, tS2, tS3]
            refine tkA 1 (?_) ?_ E0.out ?_
            rotate_left
            · (intro w1 hS; go_simp; try with_reducible rfl)
            simp only [Act.put, tS1, tS2, tS3]
            refine tkA 2 (?_) ?_ E0.out ?_
            rotate_left
            · (intro w1 hS; go_simp; try with_reducible rfl)
            simp only [Act.put, tS1, tS2, tS3]
            refine tkA 3 (?_) ?_ E0.out ?_
            rotate_left
            · (intro w1 hS; go_simp; try with_reducible rfl)
            simp only [Act.put, tS1, tS2, tS3]
            refine tkA 4 (?_) ?_ E0.out ?_
            rotate_left
            · (intro w1 hS; go_simp; try with_reducible rfl)
            simp only [Act.put, tS1, tS2, tS3]
            refine tkA 5 (?_) ?_ E0.out ?_
            rotate_left
            · (intro w1 hS; go_simp; try with_reducible rfl)
            simp only [Act.put, tS1, tS2, tS3]
            refine tkA 6 (?_) ?_ E0.out ?_
            rotate_left
            · (intro w1 hS; go_simp; try with_reducible rfl)
            simp only [Act.put, tS1, tS2, tS3]
            refine tkA 7 (?_) ?_ E0.out ?_
            rotate_left
            · (intro w1 hS; go_simp; try with_reducible rfl)
            simp only [Act.put, tS1, tS2, tS3]
            refine tkA 8 (?_) ?_ E0.out ?_
            rotate_left
            · (intro w1 hS; go_simp; try with_reducible rfl)
            simp only [Act.put, tS1, tS2, tS3]
            refine tkA 9 (?_) ?_ E0.out ?_
            rotate_left
            · (intro w1 hS; go_simp; try with_reducible rfl)
            simp only [Act.put, tS1, tS2, tS3]
            refine tkA 10 (?_) ?_ E0.out ?_
            rotate_left
            · (intro w1 hS; go_simp; try with_reducible rfl)
            simp only [Act.put, tS1, tS2, tS3]
            refine tkA 11 (?_) ?_ E0.out ?_
            rotate_left
            · (intro w1 hS; go_simp; try with_reducible rfl)
            simp only [Act.put, tS1, tS2, tS3]
            refine tkA 12 (?_) ?_ E0.out ?_
            rotate_left
            · (intro w1 hS; go_simp; try with_reducible rfl)
            simp only [Act.put, tS1, tS2, tS3]
            refine tkA 13 (?_) ?_ E0.out ?_
            rotate_left
            · (intro w1 hS; go_simp; try with_reducible rfl)
            simp only [Act.put, tS1, tS2, tS3]
            refine tkA 14 (?_) ?_ E0.out ?_
            rotate_left
            · (intro w1 hS; have hW := hS; have q := (hW.cell (p := ⟨b1, o1 + k, none⟩) B1.out).trans C1.out; clear hW hS; go_simp; try with_reducible rfl)
            simp only [Act.put, tS1, tS2, tS3]
            refine tkA 15 (?_) ?_ E0.out ?_
            rotate_left
            · (intro w1 hS; go_simp; try with_reducible rfl)
            simp only [Act.put, tS1, tS2, tS3]
            refine tkA 16 (?_) ?_ E0.out ?_
            rotate_left
            · (intro w1 hS; go_simp; try with_reducible rfl)
            simp only [Act.put, tS1, tS2, tS3]
            refine tkA 17 (?_) ?_ E0.out ?_
            rotate_left
            · (intro w1 hS; go_simp; try with_reducible rfl)
            simp only [Act.put, tS1, tS2, tS3]
            refine tkA 18 (?_) ?_ E0.out ?_
            rotate_left
            · (intro w1 hS; have hW := hS; have q := (hW.cell (p := ⟨b2, o2 + k, none⟩) B2.out).trans C2.out; clear hW hS; go_simp; try with_reducible rfl)
            simp only [Act.put, tS1, tS2, tS3]
            refine tkA 19 (?_) ?_ E0.out ?_
            rotate_left
            · (intro w1 hS; go_simp; try with_reducible rfl)
            simp only [Act.put, tS1, tS2, tS3]
            refine tkA 20 (?_) ?_ E0.out ?_
            rotate_left
            · (intro w1 hS; go_simp; try with_reducible rfl)
            simp only [Act.put, tS1, tS2, tS3]
            refine wpAnyH_done (by kernel_rfl) ?_ _
            have hy := E0.out
            replace K := Lib.hid (K.out.trans (hy.mono K.out.size))
            replace O := Lib.hid (row_under O.out hy)
            clear hy E0
            have hal := (Below.refl Y5x0.heap.size Y5x0).alloc (Nat.le_refl _) (.cells #[.int .i64 (k : Int)] 3)
            have O1 := Lib.hid (row_under O.out hal)
            have K1 := Lib.hid (K.out.trans (hal.mono K.out.size))
            have CG := Lib.hid (show (Y5x0.alloc (.cells #[.int .i64 (k : Int)] 3)).cell? ⟨Y5x0.heap.size, 0, none⟩ = some (.int .i64 (k : Int)) from (Boxed.new Y5x0 3 (.int .i64 (k : Int))).cell)
            clear hal O K
            go_wp2_with (first | (at_builtin; refine wpList_app_int rfl (.tmp 36) (.tmp 38) rfl w.heap.size _ _ (dif A B k) k rfl O1.out _ rfl CG.out ?ca ?cb ?_))
            case ca => omega
            case cb => have := K1.out.size; omega
            intro v2 w2 o2 g2
            have K2 := Lib.hid (K1.out.grown g2 K1.out.size (fun k e => (O1.out.lt k e).1))
            have O2 : Hid (w2.ownsRow w.heap.size 3 1 v2 (dif A B (k + 1)).length (nus .i64 (dif A B (k + 1)))) := by rw [dif_yes A B k HP.out, List.length_append]; exact o2
            clear o2 g2 O1 K1 CG
            go_wp2
            go_roundw
            case rel => exact ⟨k + 1, by omega, by go_num, O2.out, K2.out⟩
            case measure => simp [intOf]; omega
      · obtain rfl : m = k := by omega
        clear hkm hk
        go_wp2
        go_ret
        exact ⟨_, rfl, O.out, K.out⟩
end Go.Proofs.Ythionipmohbnhaa
namespace Go.Proofs.Ythionipmohbnhaa
open Go.RowKit
set_option maxRecDepth 100000 in
set_option maxHeartbeats 2000000 in
theorem ints_any (va vb : Value) (L : List Nat) (w : World) (ha : Rd w va (nus .i64 L)) (hb : Rd w vb (nus .i64 L)) (hz : L.length ≤ 1000000) :
    Calls Try.prog 10 #[va, vb] w fun e w' => e = .returned (.bool true) ∧ Below w.heap.size w w' := by
  obtain ⟨a1, c1, rfl, h1, h1m⟩ := rd_shape ha
  obtain ⟨a2, c2, rfl, h2, h2m⟩ := rd_shape hb
  obtain ⟨n, hn⟩ : ∃ n, n = L.length := ⟨_, rfl⟩
  rw [← hn] at ha hb h1 h2 hz ⊢
  have R1 := Lib.hid ha
  have R2 := Lib.hid hb
  clear ha hb hn
  go_enter Try.func10, Try.ntmps10
  go_wp2_with fail
  go_loopw [5] (fun i wr => ∃ k : Nat, k ≤ n ∧ i = .int .i64 (k : Int) ∧ Below w.heap.size w wr) (fun i _ => n - (intOf i).toNat)
  case atStart => exact ⟨0, Nat.zero_le _, rfl, Below.refl _ _⟩
  case round =>
    obtain ⟨k, hk, rfl, hy⟩ := hrel
    have K := Lib.hid hy
    clear hy
    by_cases hkn : k < n
    · have hki : (k : Int) < (n : Int) := by omega
      obtain ⟨b1, o1, rfl, q1⟩ := (R1.out.below K.out).cells (by omega)
      obtain ⟨b2, o2, rfl, q2⟩ := (R2.out.below K.out).cells (by omega)
      have C1 := Lib.hid (q1 k hkn)
      have C2 := Lib.hid (q2 k hkn)
      have B1 := Lib.hid (cell_lt C1.out)
      have B2 := Lib.hid (cell_lt C2.out)
      clear q1 q2
      generalize L.getD k 0 = x at *
      have e1 : ((x : Int) != (x : Int)) = false := by simp
      have e2 : ((x : Int) == (x : Int)) = true := by simp
      go_wp2_with fail
      refine wp_region_held (S := (fun w' : World => Below (wr.heap.size) wr w')) (by kernel_rfl) ?_
      change wpAnyH _ _ _ _ _ _ _ _ wr.drew
      have hy : Below wr.heap.size wr wr.drew := (Below.refl _ _).drew
      have hE0 : Below (wr.heap.size) wr wr.drew := (Below.refl _ _).drew
      clear hy
      generalize wr.drew = Y6x0 at hE0  ⊢
      have E0 := Lib.hid hE0
      clear hE0
      refine tkA 0 (?_) ?_ E0.out ?_
      rotate_left
      · (intro w1 hS; go_simp; try with_reducible rfl)
      simp only [Act.put, tS1, tS2, tS3]
      refine tkA 1 (?_) ?_ E0.out ?_
      rotate_left
      · (intro w1 hS; go_simp; try with_reducible rfl)
      simp only [Act.put, tS1, tS2, tS3]
      refine tkA 2 (?_) ?_ E0.out ?_
      rotate_left
      · (intro w1 hS; go_simp; try with_reducible rfl)
      simp only [Act.put, tS1, tS2, tS3]
      refine tkA 3 (?_) ?_ E0.out ?_
      rotate_left
      · (intro w1 hS; have hW := hS; have q := (hW.cell (p := ⟨b1, o1 + k, none⟩) B1.out).trans C1.out; clear hW hS; go_simp; try with_reducible rfl)
      simp only [Act.put, tS1, tS2, tS3]
      refine tkA 4 (?_) ?_ E0.out ?_
      rotate_left
      · (intro w1 hS; go_simp; try with_reducible rfl)
      simp only [Act.put, tS1, tS2, tS3]
      refine tkA 5 (?_) ?_ E0.out ?_
      rotate_left
      · (intro w1 hS; go_simp; try with_reducible rfl)
      simp only [Act.put, tS1, tS2, tS3]
      refine tkA 6 (?_) ?_ E0.out ?_
      rotate_left
      · (intro w1 hS; go_simp; try with_reducible rfl)
      simp only [Act.put, tS1, tS2, tS3]
      refine tkA 7 (?_) ?_ E0.out ?_
      rotate_left
      · (intro w1 hS; have hW := hS; have q := (hW.cell (p := ⟨b2, o2 + k, none⟩) B2.out).trans C2.out; clear hW hS; go_simp; try with_reducible rfl)
      simp only [Act.put, tS1, tS2, tS3]
      refine tkA 8 (?_) ?_ E0.out ?_
      rotate_left
      · (intro w1 hS; go_simp; try with_reducible rfl)
      simp only [Act.put, tS1, tS2, tS3]
      refine wpAnyH_done (by kernel_rfl) ?_ _
      have hy := E0.out
      replace K := Lib.hid (K.out.trans (hy.mono K.out.size))
      clear hy E0
      go_wp2
      go_roundw
      case rel => exact ⟨k + 1, by omega, by go_num, K.out⟩
      case measure => simp [intOf]; omega
    · obtain rfl : n = k := by omega
      go_wp2
      go_ret
      exact ⟨rfl, K.out⟩
end Go.Proofs.Ythionipmohbnhaa
namespace Go.Proofs.Ythionipmohbnhaa
open Go.RowKit
theorem own_keep {w w' : World} {base gs n cap B : Nat} {e : TypeId} {xs : List Value} (h : w.ownsRow base e 1 (.slice (some ⟨gs, 0, none⟩) n cap) n xs) (hb : Below B w w') (hg : gs < B) :
    w'.ownsRow base e 1 (.slice (some ⟨gs, 0, none⟩) n cap) n xs := by
  obtain ⟨h1, h2⟩ := h
  refine ⟨h1, ?_⟩
  rcases h2 with ⟨h2, -⟩ | ⟨k, cap', cur, hv, hh, h4, hn, hm, h5⟩
  · cases h2
  · cases hv
    exact .inr ⟨gs, cap, cur, rfl, hh, (hb.block gs hg).trans h4, hn, hm, h5⟩
theorem below_none {w w' : World} (h : w.grownBy w' none) : Below w.heap.size w w' := (Below.refl w.heap.size w).grown h (Nat.le_refl _) (fun k e => by cases e)
theorem kget (v : Bool) (sb db : List Nat) (hl1 : sb.length = 16) (hl2 : db.length = 16) (p sp dp : Nat) :
    (kcells p (cellsA v sb) (cellsA v db) sp dp)[0]? = some (.int .u8 (p : Int)) ∧ (kcells p (cellsA v sb) (cellsA v db) sp dp)[1]? = some (.bool v) ∧ (kcells p (cellsA v sb) (cellsA v db) sp dp)[18]? = some (.bool v) ∧
    (kcells p (cellsA v sb) (cellsA v db) sp dp)[35]? = some (.int .u16 (sp : Int)) ∧ (kcells p (cellsA v sb) (cellsA v db) sp dp)[36]? = some (.int .u16 (dp : Int)) := by
  obtain ⟨b0, b1, b2, b3, b4, b5, b6, b7, b8, b9, b10, b11, b12, b13, b14, b15, rfl⟩ := list16 sb hl1
  obtain ⟨d0, d1, d2, d3, d4, d5, d6, d7, d8, d9, d10, d11, d12, d13, d14, d15, rfl⟩ := list16 db hl2
  exact ⟨rfl, rfl, rfl, rfl, rfl⟩
theorem hdr_tcp (sp dp f m : Nat) (h1 : sp < 65536) (h2 : dp < 65536) :
    ((((((List.replicate 20 0).set 12 80).set 13 f).set 0 (sp / 256)).set (0 + 1) (sp % 256)).set 2 (dp / 256)).set (2 + 1) (dp % 256) = bg 2 sp ++ bg 2 dp ++ midB 6 f m := by
  have e1 : sp / 256 % 256 = sp / 256 := by omega
  have e2 : dp / 256 % 256 = dp / 256 := by omega
  simp [bg, midB, e1, e2, List.replicate]
theorem hdr_udp (sp dp f m : Nat) (h1 : sp < 65536) (h2 : dp < 65536) (h3 : 8 + m < 65536) :
    ((((((List.replicate 8 0).set 4 ((8 + m) / 256)).set (4 + 1) ((8 + m) % 256)).set 0 (sp / 256)).set (0 + 1) (sp % 256)).set 2 (dp / 256)).set (2 + 1) (dp % 256) = bg 2 sp ++ bg 2 dp ++ midB 17 f m := by
  have e1 : sp / 256 % 256 = sp / 256 := by omega
  have e2 : dp / 256 % 256 = dp / 256 := by omega
  have e3 : (8 + m) / 256 % 256 = (8 + m) / 256 := by omega
  simp [bg, midB, e1, e2, e3, List.replicate]
end Go.Proofs.Ythionipmohbnhaa
namespace Go.Proofs.Ythionipmohbnhaa
open Go.RowKit
theorem run_app_none (w : World) (ty g n cap : Nat) (hc : n ≤ cap) : (Builtin.append_ #[22, 3] ty #[.slice (some ⟨g, 0, none⟩) n cap, .int .i64 ((0 : Nat) : Int)]).run Try.prog w = .ok (.slice (some ⟨g, 0, none⟩) n cap) w := by
  obtain ⟨i, hi, hz, -, hby⟩ := info_parts Try.info5
  have ht : Try.prog.underlying 22 = some (.slice 5) := Try.underlying22
  have htn : Try.prog.underlying 3 = some (.int .i64) := Try.underlying3
  have hw : IntKind.i64.wrap (0 : Int) = 0 := by decide
  simp [Builtin.append_, run_underlying ht, run_underlying htn, sizeOf, typeInfo, zeroValue, hi, hz, hby, asInt, asIntOf, hw, hc, storeCells]
theorem wpList_zerosN {w : World} {ops : Array Oper} {rest : List Oper} {o : Oper} {a : Act} {Q : Exit → Act → World → Prop} (hgd : o.guard = none) (s x : Operand) (k : Nat)
    (ho : o.op = .call { callee := .builtin .append, args := #[s, x], argTypes := #[22, 3] }) (hx : a.eval x = .int .i64 (k : Int))
    (base g n cap : Nat) (zs : List Nat) (hs : a.eval s = .slice (some ⟨g, 0, none⟩) n cap) (hown : w.ownsRow base 5 1 (.slice (some ⟨g, 0, none⟩) n cap) n (nus .u8 zs)) (hn : n + k ≤ 1000000) (hbase : base ≤ w.heap.size)
    (h : ∀ v' w', w'.ownsRow base 5 1 v' (n + k) (nus .u8 (zs ++ List.replicate k 0)) → w.grownBy w' (some g) → wpList Try.prog ops Q rest (a.put o.dst v') w') :
    wpList Try.prog ops Q (o :: rest) a w := by
  by_cases h0 : k = 0
  · subst h0
    exact Lib.wpList_append_run w hgd s _ 22 3 ho _ _ hs hx _ _ (run_app_none w o.type g n cap (by obtain ⟨-, ⟨h1, -⟩ | ⟨g', c', cur, hv, -, -, h2, -⟩⟩ := hown; cases h1; cases hv; exact h2)) (h _ _ (by simpa using hown) (World.grownBy.refl _ _))
  · obtain ⟨v', w', hr, h1, h2⟩ := run_app_zeros w o.type base g n cap k _ hown (by omega) hn hbase
    exact Lib.wpList_append_run w hgd s _ 22 3 ho _ _ hs hx v' w' hr (h v' w' (by simpa [nus] using h1) h2)
end Go.Proofs.Ythionipmohbnhaa
namespace Go.Proofs.Ythionipmohbnhaa
open Go.RowKit
set_option maxRecDepth 100000 in
set_option maxHeartbeats 4000000 in
theorem rmake_yes (sb db : List Nat) (p n : Nat) (w : World) (hl1 : sb.length = 16) (hl2 : db.length = 16) (hn : n ≤ 65535) :
    Calls Try.prog 31 #[adr true sb, adr true db, .int .u8 (p : Int), .int .i64 (n : Int)] w fun e w' => ∃ x, e = .returned (.tuple #[x, .bool true]) ∧ w'.ownsRow w.heap.size 5 1 x 40 (nus .u8 (mk6 sb db p n)) ∧ Below w.heap.size w w' := by
  have CS := Lib.hid (fun w' => rbytes_own true sb hl1 w')
  have CD := Lib.hid (fun w' => rbytes_own true db hl2 w')
  unfold bytesA at CS CD
  rw [if_pos rfl, hl1] at CS
  rw [if_pos rfl, hl2] at CD
  unfold adr at CS CD ⊢
  have E1 := Lib.hid (show (cellsA true sb)[0]? = some (.bool true) from cellsA_head _ _)
  have E2 := Lib.hid (show (cellsA true db)[0]? = some (.bool true) from cellsA_head _ _)
  have z1 : (cellsA true sb).size = 17 := by rw [cellsA_size, hl1]
  have z2 : (cellsA true db).size = 17 := by rw [cellsA_size, hl2]
  have I1 := Lib.hid (i24.trans (congrArg some z1.symm))
  have I2 := Lib.hid (i24.trans (congrArg some z2.symm))
  obtain ⟨d1, hd1⟩ : ∃ d, d = n / 256 % 256 := ⟨_, rfl⟩
  obtain ⟨d2, hd2⟩ : ∃ d, d = n % 256 := ⟨_, rfl⟩
  have HM : Hid ([96, 0, 0, 0, d1, d2, p, 64] ++ sb ++ db = mk6 sb db p n) := by
    show _ = _
    rw [hd1, hd2]; simp [mk6, bg]
  have hw1 : IntKind.u8.wrap ((n : Int) / 256) = (d1 : Int) := by rw [IntKind.wrap_u8]; omega
  have hw2 : IntKind.u8.wrap (n : Int) = (d2 : Int) := by rw [IntKind.wrap_u8]; omega
  generalize mk6 sb db p n = M at *
  generalize cellsA true sb = c1 at *
  generalize cellsA true db = c2 at *
  have K := Lib.hid (Below.refl w.heap.size w)
  clear z1 z2 hl1 hl2 hd1 hd2
  go_enter Try.func31, Try.ntmps31
  have hal := (Below.refl w.heap.size w).alloc (Nat.le_refl _) (.cells c1 25)
  replace K := Lib.hid (K.out.trans (hal.mono K.out.size))
  have N1 := Lib.hid (Blk.new w 25 c1)
  clear hal
  have hal := (Below.refl (w.alloc (.cells c1 25)).heap.size (w.alloc (.cells c1 25))).alloc (Nat.le_refl _) (.cells c2 25)
  replace K := Lib.hid (K.out.trans (hal.mono K.out.size))
  replace N1 := Lib.hid (N1.out.below hal N1.out.lt)
  have N2q := Blk.new (w.alloc (.cells c1 25)) 25 c2
  simp only [World.size_alloc] at N2q
  have N2 := Lib.hid N2q
  clear N2q
  clear hal
  have hc1 := (N1.out.cell 0).trans E1.out
  have hc2 := (N2.out.cell 0).trans E2.out
  go_wp2_with fail
  have hzV1 : Hid (((w.alloc (.cells c1 25)).alloc (.cells c2 25)).heap.size = w.heap.size + 1 + 1) := by show _ = _; simp only [World.size_alloc]
  generalize ((w.alloc (.cells c1 25)).alloc (.cells c2 25)) = V1 at *
  clear hc1 hc2 E1 E2
  have O := Lib.hid (show (V1.alloc (.cells #[Value.int .u8 96, .int .u8 0, .int .u8 0, .int .u8 0, .int .u8 (d1 : Int), .int .u8 (d2 : Int), .int .u8 (p : Int), .int .u8 64] 5)).ownsRow V1.heap.size 5 1 (.slice (some ⟨V1.heap.size, 0, none⟩) 8 8) 8 (nus .u8 [96, 0, 0, 0, d1, d2, p, 64]) from own_lit V1 .u8 5 [96, 0, 0, 0, d1, d2, p, 64] 8 V1.heap.size rfl (by simp [maxLen]) (Nat.le_refl _))
  have q2 : w.heap.size + 1 < V1.heap.size := N2.out.lt
  have q1 : w.heap.size < V1.heap.size := by omega
  have hal := (Below.refl V1.heap.size V1).alloc (Nat.le_refl _) (.cells #[Value.int .u8 96, .int .u8 0, .int .u8 0, .int .u8 0, .int .u8 (d1 : Int), .int .u8 (d2 : Int), .int .u8 (p : Int), .int .u8 64] 5)
  have hbase := K.out.size
  replace K := Lib.hid (K.out.trans (hal.mono K.out.size))
  replace N1 := Lib.hid (N1.out.below hal N1.out.lt)
  replace N2 := Lib.hid (N2.out.below hal N2.out.lt)
  generalize V1.alloc (.cells #[Value.int .u8 96, .int .u8 0, .int .u8 0, .int .u8 0, .int .u8 (d1 : Int), .int .u8 (d2 : Int), .int .u8 (p : Int), .int .u8 64] 5) = V2 at *
  have hlow : V1.heap.size ≤ V2.heap.size := hal.size
  clear hal
  obtain ⟨g0, hg0⟩ : ∃ g, g = w.heap.size + 1 + 1 := ⟨_, rfl⟩
  rw [hzV1.out, ← hg0] at O hlow hbase q1 q2
  rw [← hg0]
  clear hg0
  refine wp_region_held (S := (fun w' : World => Below (g0) V2 w')) (by kernel_rfl) ?_
  change wpAnyH _ _ _ _ _ _ _ _ V2.drew
  have hy : Below V2.heap.size V2 V2.drew := (Below.refl _ _).drew
  have hE0 : Below (g0) V2 V2.drew := (Below.refl _ _).drew
  replace O := Lib.hid (row_under O.out hy)
  clear hy
  generalize V2.drew = Y4x0 at hE0 O ⊢
  have E0 := Lib.hid hE0
  clear hE0
  refine tkA 0 (?_) ?_ E0.out ?_
  rotate_left
  · (intro w1 hS; go_simp; try with_reducible rfl)
  simp only [Act.put, tS1, tS2, tS3]
  refine tkA 1 (.agg c1) ?_ E0.out ?_
  · (intro w1 hS; have hW := hS; exact exec_load 25 (.tmp 4) rfl _ rfl _ (run_blk_load (P := Try.prog) 25 (w.heap.size) _ (N1.out.below hW (by omega)) Try.underlying25 rfl I1.out))
  simp only [Act.put, tS1, tS2, tS3]
  refine tkA 4 (.agg c2) ?_ E0.out ?_
  · (intro w1 hS; have hW := hS; exact exec_load 25 (.tmp 5) rfl _ rfl _ (run_blk_load (P := Try.prog) 25 (w.heap.size + 1) _ (N2.out.below hW (by omega)) Try.underlying25 rfl I2.out))
  simp only [Act.put, tS1, tS2, tS3]
  refine tkO 2 (fun K hK => ?_)
  go_simp
  refine (CS.out Y4x0).mono ?_
  rintro e Y4x1 ⟨z, rfl, hz, hy⟩
  replace O := Lib.hid (row_under O.out hy)
  have E1 := Lib.hid (E0.out.trans (hy.mono (Nat.le_trans hlow E0.out.size)))
  have C1 := Lib.hid E1.out
  have Z := Lib.hid (hz)
  clear hz
  clear hy E0
  refine hK.out _ _ C1.out (fun _ => ?_)
  clear hK K
  clear C1
  try simp only [Act.put, tS1, tS2, tS3]
  obtain ⟨gz, cz, rfl, -, -, -, -⟩ := own_at Z.out (by omega)
  refine tkO 3 (fun K hK => ?_)
  rw [if_pos (by rfl)]
  refine wp_app (.tmp 34) (.tmp 36) rfl (g0) (.slice (some ⟨g0, 0, none⟩) (8) 8) (8) [96, 0, 0, 0, d1, d2, p, 64] rfl O.out (some ⟨gz, 0, none⟩) (16) (cz) sb rfl (Rd.own Z.out) (by intro e; cases e) (by omega) (Nat.le_trans hlow E1.out.size) ?_
  intro vx Y4x2 oz gz
  clear Z
  replace O := Lib.hid oz
  clear oz
  have E2 := Lib.hid (E1.out.grown gz (Nat.le_trans hlow E1.out.size) (fun k e => by cases e; first | exact Nat.le_refl _ | omega))
  obtain ⟨g1, cz1, rfl, hcz1, hcz1m, hg1, hg1u⟩ := own_at O.out (by omega)
  clear gz E1
  refine hK.out _ _ E2.out (fun _ => ?_)
  clear hK K
  try simp only [Act.put, tS1, tS2, tS3]
  refine tkO 5 (fun K hK => ?_)
  go_simp
  refine (CD.out Y4x2).mono ?_
  rintro e Y4x3 ⟨z, rfl, hz, hy⟩
  replace O := Lib.hid (row_under O.out hy)
  have E3 := Lib.hid (E2.out.trans (hy.mono (Nat.le_trans hlow E2.out.size)))
  have C3 := Lib.hid E3.out
  have Z := Lib.hid (hz)
  clear hz
  clear hy E2
  refine hK.out _ _ C3.out (fun _ => ?_)
  clear hK K
  clear C3
  try simp only [Act.put, tS1, tS2, tS3]
  obtain ⟨gz, cz, rfl, -, -, -, -⟩ := own_at Z.out (by omega)
  refine tkO 6 (fun K hK => ?_)
  rw [if_pos (by rfl)]
  refine wp_app (.tmp 37) (.tmp 39) rfl (g0) (.slice (some ⟨g1, 0, none⟩) (8 + 16) cz1) (8 + 16) ([96, 0, 0, 0, d1, d2, p, 64] ++ sb) rfl O.out (some ⟨gz, 0, none⟩) (16) (cz) db rfl (Rd.own Z.out) (by intro e; cases e) (by omega) (Nat.le_trans hlow E3.out.size) ?_
  intro vx Y4x4 oz gz
  clear Z
  replace O := Lib.hid oz
  clear oz
  have E4 := Lib.hid (E3.out.grown gz (Nat.le_trans hlow E3.out.size) (fun k e => by cases e; first | exact Nat.le_refl _ | omega))
  obtain ⟨g2, cz2, rfl, hcz2, hcz2m, hg2, hg2u⟩ := own_at O.out (by omega)
  clear gz E3
  refine hK.out _ _ E4.out (fun _ => ?_)
  clear hK K
  try simp only [Act.put, tS1, tS2, tS3]
  refine tkA 7 (?_) ?_ E4.out ?_
  rotate_left
  · (intro w1 hS; go_simp; try with_reducible rfl)
  simp only [Act.put, tS1, tS2, tS3]
  refine tkA 8 (?_) ?_ E4.out ?_
  rotate_left
  · (intro w1 hS; go_simp; try with_reducible rfl)
  simp only [Act.put, tS1, tS2, tS3]
  refine wpAnyH_done (by kernel_rfl) ?_ _
  replace K := Lib.hid (K.out.trans (E4.out.mono (by omega)))
  replace N1 := Lib.hid (N1.out.below E4.out (by omega))
  replace N2 := Lib.hid (N2.out.below E4.out (by omega))
  clear E4
  rw [HM.out] at O
  go_wp2
  go_ret2
  exact ⟨_, rfl, own_low hbase O.out, K.out⟩
end Go.Proofs.Ythionipmohbnhaa
