/- Texts that the walks of this seat lean on, put together: each has its own remark below. -/
import Derived.Test.YtbhiknojjmdbiaaM01
import Derived.Test.YtbhiknojjmdbiaaM02
import Derived.Test.YtbhiknojjmdbiaaM05
import Derived.Test.YtbhiknojjmdbiaaM06
import Derived.Test.YtbhiknojjmdbiaaM08
import Derived.Test.YtbhiknojjmdbiaaM09
import Derived.Test.YtbhiknojjmdbiaaM10

/- Rows of the call's own that stay; a key's cells; a segment's header, put together. -/
namespace Go.Proofs.Ytbhiknojjmdbiaa
open Go.RowKit

theorem own_keep {w w' : World} {base gs n cap B : Nat} {e : TypeId} {xs : List Value} (h : w.ownsRow base e 1 (.slice (some ⟨gs, 0, none⟩) n cap) n xs) (hb : Below B w w') (hg : gs < B) :
    w'.ownsRow base e 1 (.slice (some ⟨gs, 0, none⟩) n cap) n xs := by
  obtain ⟨h1, h2⟩ := h
  refine ⟨h1, ?_⟩
  rcases h2 with ⟨h2, -⟩ | ⟨k, cap', cur, hv, hh, h4, hn, hm, h5⟩
  · cases h2
  · cases hv
    exact .inr ⟨gs, cap, cur, rfl, hh, (hb.block gs hg).trans h4, hn, hm, h5⟩
theorem below_none {w w' : World} (h : w.grownBy w' none) : Below w.heap.size w w' := (Below.refl w.heap.size w).grown h (Nat.le_refl _) (fun k e => by cases e)
theorem kget (v : Bool) (sb db : List Nat) (hl1 : sb.length = 16) (hl2 : db.length = 16) (p sp dp : Nat) :
    (kcells p (cellsA v sb) (cellsA v db) sp dp)[0]? = some (.int .u8 (p : Int)) ∧ (kcells p (cellsA v sb) (cellsA v db) sp dp)[1]? = some (.bool v) ∧ (kcells p (cellsA v sb) (cellsA v db) sp dp)[18]? = some (.bool v) ∧
    (kcells p (cellsA v sb) (cellsA v db) sp dp)[35]? = some (.int .u16 (sp : Int)) ∧ (kcells p (cellsA v sb) (cellsA v db) sp dp)[36]? = some (.int .u16 (dp : Int)) := by
  obtain ⟨b0, b1, b2, b3, b4, b5, b6, b7, b8, b9, b10, b11, b12, b13, b14, b15, rfl⟩ := list16 sb hl1
  obtain ⟨d0, d1, d2, d3, d4, d5, d6, d7, d8, d9, d10, d11, d12, d13, d14, d15, rfl⟩ := list16 db hl2
  exact ⟨rfl, rfl, rfl, rfl, rfl⟩
theorem hdr_tcp (sp dp f m : Nat) (h1 : sp < 65536) (h2 : dp < 65536) :
    ((((((List.replicate 20 0).set 12 80).set 13 f).set 0 (sp / 256)).set (0 + 1) (sp % 256)).set 2 (dp / 256)).set (2 + 1) (dp % 256) = bg 2 sp ++ bg 2 dp ++ midB 6 f m := by
  have e1 : sp / 256 % 256 = sp / 256 := by omega
  have e2 : dp / 256 % 256 = dp / 256 := by omega
  simp [bg, midB, e1, e2, List.replicate]
theorem hdr_udp (sp dp f m : Nat) (h1 : sp < 65536) (h2 : dp < 65536) (h3 : 8 + m < 65536) :
    ((((((List.replicate 8 0).set 4 ((8 + m) / 256)).set (4 + 1) ((8 + m) % 256)).set 0 (sp / 256)).set (0 + 1) (sp % 256)).set 2 (dp / 256)).set (2 + 1) (dp % 256) = bg 2 sp ++ bg 2 dp ++ midB 17 f m := by
  have e1 : sp / 256 % 256 = sp / 256 := by omega
  have e2 : dp / 256 % 256 = dp / 256 := by omega
  have e3 : (8 + m) / 256 % 256 = (8 + m) / 256 := by omega
  simp [bg, midB, e1, e2, e3, List.replicate]
end Go.Proofs.Ytbhiknojjmdbiaa

/- append of so many zeros, a number that is told. -/
namespace Go.Proofs.Ytbhiknojjmdbiaa
open Go.RowKit

theorem run_app_none (w : World) (ty g n cap : Nat) (hc : n ≤ cap) : (Builtin.append_ #[22, 3] ty #[.slice (some ⟨g, 0, none⟩) n cap, .int .i64 ((0 : Nat) : Int)]).run Try.prog w = .ok (.slice (some ⟨g, 0, none⟩) n cap) w := by
  obtain ⟨i, hi, hz, -, hby⟩ := info_parts Try.info5
  have ht : Try.prog.underlying 22 = some (.slice 5) := Try.underlying22
  have htn : Try.prog.underlying 3 = some (.int .i64) := Try.underlying3
  have hw : IntKind.i64.wrap (0 : Int) = 0 := by decide
  simp [Builtin.append_, run_underlying ht, run_underlying htn, sizeOf, typeInfo, zeroValue, hi, hz, hby, asInt, asIntOf, hw, hc, storeCells]

theorem wpList_zerosN {w : World} {ops : Array Oper} {rest : List Oper} {o : Oper} {a : Act} {Q : Exit → Act → World → Prop} (hgd : o.guard = none) (s x : Operand) (k : Nat)
    (ho : o.op = .call { callee := .builtin .append, args := #[s, x], argTypes := #[22, 3] }) (hx : a.eval x = .int .i64 (k : Int))
    (base g n cap : Nat) (zs : List Nat) (hs : a.eval s = .slice (some ⟨g, 0, none⟩) n cap) (hown : w.ownsRow base 5 1 (.slice (some ⟨g, 0, none⟩) n cap) n (nus .u8 zs)) (hn : n + k ≤ 1000000) (hbase : base ≤ w.heap.size)
    (h : ∀ v' w', w'.ownsRow base 5 1 v' (n + k) (nus .u8 (zs ++ List.replicate k 0)) → w.grownBy w' (some g) → wpList Try.prog ops Q rest (a.put o.dst v') w') :
    wpList Try.prog ops Q (o :: rest) a w := by
  by_cases h0 : k = 0
  · subst h0
    exact Lib.wpList_append_run w hgd s _ 22 3 ho _ _ hs hx _ _ (run_app_none w o.type g n cap (by obtain ⟨-, ⟨h1, -⟩ | ⟨g', c', cur, hv, -, -, h2, -⟩⟩ := hown; cases h1; cases hv; exact h2)) (h _ _ (by simpa using hown) (World.grownBy.refl _ _))
  · obtain ⟨v', w', hr, h1, h2⟩ := run_app_zeros w o.type base g n cap k _ hown (by omega) hn hbase
    exact Lib.wpList_append_run w hgd s _ 22 3 ho _ _ hs hx v' w' hr (h v' w' (by simpa [nus] using h1) h2)
end Go.Proofs.Ytbhiknojjmdbiaa

/- ether.With: the bytes ahead, with another kind. -/
namespace Go.Proofs.Ytbhiknojjmdbiaa
open Go.RowKit

theorem net_at (zs : List Nat) (h : (net zs).2.2 = 0) : ∃ n, (net zs).1 = n + 2 ∧ n + 2 ≤ zs.length ∧ (n = 12 ∨ n = 16) ∧ u2 zs n = (net zs).2.1 := by
  unfold net netK at h ⊢
  split at h
  · simp at h
  · rename_i h14
    rw [if_neg h14]
    split at h
    · rename_i hv
      rw [if_pos hv]
      split at h
      · simp at h
      · rename_i h18
        rw [if_neg h18]
        split at h
        · rename_i hk
          rw [if_pos hk]
          exact ⟨16, rfl, by omega, .inr rfl, rfl⟩
        · simp at h
    · rename_i hv
      rw [if_neg hv]
      split at h
      · rename_i hk
        rw [if_pos hk]
        exact ⟨12, rfl, by omega, .inl rfl, rfl⟩
      · simp at h
theorem net_r (zs : List Nat) : (net zs).2.2 < 3 := by
  unfold net netK
  repeat' split
  all_goals simp
end Go.Proofs.Ytbhiknojjmdbiaa

/- bazaarref1.Net and bazaarref1.With: they tell the same. -/
namespace Go.Proofs.Ytbhiknojjmdbiaa
open Go.RowKit

set_option maxHeartbeats 800000 in
theorem rnet_any (v : Value) (zs : List Nat) (w : World) (hr : Rd w v (nus .u8 zs)) (hb : ∀ c ∈ zs, c < 256) :
    Calls Try.prog 54 #[v] w fun e w' => e = .returned (.tuple #[.int .i64 ((net zs).1 : Nat), .int .i64 ((net zs).2.1 : Nat), .int .i64 ((net zs).2.2 : Nat)]) ∧ Below w.heap.size w w' := by
  have HR := Lib.hid hr
  have HB := Lib.hid hb
  obtain ⟨a, cap, rfl, hlc, hl, -⟩ := hr
  rw [nus_length] at hlc HR ⊢
  have hk1 := u2_lt zs 12 hb
  have hk2 := u2_lt zs 16 hb
  clear hb
  have hlm : zs.length ≤ maxLen := Nat.le_trans hlc hl
  unfold maxLen at hlm
  clear hl hlc
  by_cases h14 : zs.length < 14
  · rw [net_short zs h14]
    go_enter Try.func54, Try.ntmps54
    go_wp2
    go_ret3
    exact ⟨rfl, Below.refl _ _⟩
  · by_cases hv : u2 zs 12 = 33024
    · by_cases h18 : zs.length < 18
      · rw [net_cut zs h14 hv h18]
        go_enter Try.func54, Try.ntmps54
        go_wp2_with fail
        refine (be16_any _ _ _ 12 zs _ HR.out HB.out (by omega)).mono ?_; rintro e w' ⟨rfl, n, rfl⟩
        rw [show zs.getD 12 0 * 256 + zs.getD (12 + 1) 0 = 33024 from hv]
        go_wp2
        go_ret3
        exact ⟨rfl, below_drewN (Below.refl _ _) _⟩
      · rw [net_tag zs h14 hv h18]
        obtain ⟨kd, hK⟩ : ∃ k, k = u2 zs 16 := ⟨_, rfl⟩
        rw [← hK] at hk2 ⊢
        have HK := Lib.hid (show zs.getD 16 0 * 256 + zs.getD (16 + 1) 0 = kd from hK.symm)
        clear hK
        go_enter Try.func54, Try.ntmps54
        go_wp2_with fail
        refine (be16_any _ _ _ 12 zs _ HR.out HB.out (by omega)).mono ?_; rintro e w' ⟨rfl, n, rfl⟩
        rw [show zs.getD 12 0 * 256 + zs.getD (12 + 1) 0 = 33024 from hv]
        go_wp2_with fail
        refine (be16_any _ _ _ 16 zs _ (HR.out.below (below_drewN (Below.refl _ _) _)) HB.out (by omega)).mono ?_; rintro e w' ⟨rfl, n, rfl⟩
        rw [HK.out]
        clear hv hk1
        by_cases h1 : kd = 2048
        · subst h1
          go_wp2
          go_ret3
          exact ⟨rfl, below_drewN (Below.refl _ _) _⟩
        · by_cases h2 : kd = 34525
          · subst h2
            go_wp2
            go_ret3
            exact ⟨rfl, below_drewN (Below.refl _ _) _⟩
          · have en := Lib.hid (netK_no 18 kd h1 h2)
            have g1 : ((kd : Int) != 2048) = true := by simp; omega
            have g2 : ((kd : Int) != 34525) = true := by simp; omega
            clear h1 h2
            go_wp2
            go_ret3
            exact ⟨by rw [en.out]; rfl, below_drewN (Below.refl _ _) _⟩
    · rw [net_bare zs h14 hv]
      obtain ⟨kd, hK⟩ : ∃ k, k = u2 zs 12 := ⟨_, rfl⟩
      rw [← hK] at hk1 hv ⊢
      have HK := Lib.hid (show zs.getD 12 0 * 256 + zs.getD (12 + 1) 0 = kd from hK.symm)
      clear hK
      go_enter Try.func54, Try.ntmps54
      go_wp2_with fail
      refine (be16_any _ _ _ 12 zs _ HR.out HB.out (by omega)).mono ?_; rintro e w' ⟨rfl, n, rfl⟩
      rw [HK.out]
      clear hk2
      have B2 := Lib.hid (below_drewN (Below.refl w.heap.size w) n)
      have g0 : ((kd : Int) == 33024) = false := by simp; omega
      clear hv
      by_cases h1 : kd = 2048
      · subst h1
        go_wp2
        go_ret3
        exact ⟨rfl, B2.out⟩
      · by_cases h2 : kd = 34525
        · subst h2
          go_wp2
          go_ret3
          exact ⟨rfl, B2.out⟩
        · have en := Lib.hid (netK_no 14 kd h1 h2)
          have g1 : ((kd : Int) != 2048) = true := by simp; omega
          have g2 : ((kd : Int) != 34525) = true := by simp; omega
          clear h1 h2
          go_wp2
          go_ret3
          exact ⟨by rw [en.out]; rfl, B2.out⟩

theorem set_two (zs : List Nat) (n k : Nat) (h : n + 2 ≤ zs.length) (hk : k < 65536) : ((zs.take (n + 2)).set n (k / 256)).set (n + 1) (k % 256) = zs.take n ++ bg 2 k := by
  have hl : (zs.take n).length = n := by simp; omega
  have hd : (zs.drop n).length = zs.length - n := by simp
  rw [List.take_add]
  cases h0 : zs.drop n with
  | nil => rw [h0] at hd; simp at hd; omega
  | cons a r =>
    cases r with
    | nil => rw [h0] at hd; simp at hd; omega
    | cons b r =>
      rw [List.set_append_right _ _ (by omega), List.set_append_right _ _ (by omega), hl, Nat.sub_self, Nat.add_sub_cancel_left]
      have e : k / 256 % 256 = k / 256 := by omega
      simp [bg, e]
/-- An empty row that is new. -/
theorem own_new (w0 w : World) (e : TypeId) (h : w0.heap.size ≤ w.heap.size) : (w.alloc (.cells #[] e)).ownsRow w0.heap.size e 1 (.slice (some ⟨w.heap.size, 0, none⟩) 0 0) 0 (nus .u8 []) :=
  own_of_heap (show (w.heap.push (.cells #[] e))[w.heap.size]? = _ by simp [nus]) h rfl (by simp [maxLen])
end Go.Proofs.Ytbhiknojjmdbiaa

/- append to a row of the call's own, where an operation alone is looked at. -/
namespace Go.Proofs.Ytbhiknojjmdbiaa
open Go.RowKit

theorem wp_app {w : World} {K : Act → World → Prop} {Q : Exit → Act → World → Prop} {o : Oper} {a : Act} (s x : Operand)
    (ho : o.op = .call { callee := .builtin .append, args := #[s, x], argTypes := #[22, 22] })
    (base : Nat) (v : Value) (n : Nat) (zs : List Nat) (hs : a.eval s = v) (hown : w.ownsRow base 5 1 v n (nus .u8 zs))
    (ao : Option Addr) (len cap : Nat) (bs : List Nat) (hx : a.eval x = .slice ao len cap) (hr : Rd w (.slice ao len cap) (nus .u8 bs)) (hn : ao = none → cap = 0) (hlen : n + len ≤ 1000000) (hbase : base ≤ w.heap.size)
    (h : ∀ v' w', w'.ownsRow base 5 1 v' (n + len) (nus .u8 (zs ++ bs)) → w.grownBy w' v.ownBlock → K (a.put o.dst v') w') :
    o.wp Try.prog a w K Q := by
  obtain ⟨i0, hi, hz0, hz1, hz2⟩ := info_parts Try.info5
  obtain ⟨a', cap', e, h1, h2, h3⟩ := hr
  simp only [Value.slice.injEq] at e
  obtain ⟨rfl, he, rfl⟩ := e
  rw [nus_length] at he h1 h3
  subst he
  cases ao with
  | none =>
    obtain rfl := hn rfl
    have hb : bs = [] := by cases bs with | nil => rfl | cons _ _ => simp at h1
    subst hb
    have hrun := run_append_owned_none (P := Try.prog) (w := w) base 22 o.type 5 i0 1 Try.underlying22 hi v n (nus .u8 zs) hown
    unfold Oper.wp
    simp [execOp, ho, resolve, invoke, builtin, hs, hx, hrun, Result.andThen]
    exact h v w (by simpa using hown) (World.grownBy.refl _ _)
  | some ad =>
    refine wp_append_own w s x 22 ho base 5 i0 (.int .u8 0) 1 1 Try.underlying22 hi hz0 hz1 hz2 rfl (by decide) v n (nus .u8 zs) hs hown ad bs.length cap (nus .u8 bs) hx (by rw [nus_length]; omega) ?_ (oneCell_nus _ _) (by unfold maxLen; omega) (by omega) hbase ?_
    · intro j u hj
      rcases h3 with h3 | ⟨b, off, e, hb, hcc⟩
      · rw [h3] at hj; simp at hj
      · cases e
        have hjl : j < (nus .u8 bs).length := (List.getElem?_eq_some_iff.1 hj).1
        rw [nus_length] at hjl
        rw [← hj]
        rw [Addr.add_lit]; exact hcc j hjl
    · intro v' w' hown' hgr _
      exact h v' w' (by rw [nus_append]; exact hown') hgr
end Go.Proofs.Ytbhiknojjmdbiaa

/- bazaarref1.SixDest. -/
namespace Go.Proofs.Ytbhiknojjmdbiaa
open Go.RowKit

theorem subP {w : World} {b off len cap : Nat} {k : IntKind} {bs : List Nat} (h : Rd w (.slice (some ⟨b, off, none⟩) len cap) (nus k bs)) (j m : Nat) (hc : j + m ≤ len) :
    Rd w (.slice (if cap = j then some ⟨b, off, none⟩ else some ⟨b, off + j, none⟩) m (cap - j)) (nus k ((bs.drop j).take m)) := by
  by_cases he : cap = j
  · rw [if_pos he]
    have h1 := h
    obtain ⟨a', cap', e, h1, h2, h3⟩ := h1
    simp only [Value.slice.injEq] at e
    obtain ⟨-, rfl, rfl⟩ := e
    have hm : m = 0 := by omega
    subst hm
    exact ⟨some ⟨b, off, none⟩, cap - j, by simp [nus], by simp [nus], by omega, .inl (by simp [nus])⟩
  · rw [if_neg he]; exact h.sub j m hc
end Go.Proofs.Ytbhiknojjmdbiaa

