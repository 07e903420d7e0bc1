/- Texts that the walks of this seat lean on, put together. -/
import Derived.StillTailTactics
import Derived.Deep.CutBlock
import Derived.Deep.DeepCutAuto
import Derived.LoopTactic
import Derived.Handy
import Derived.Test.YtcgaibkpdihncaaDoorTk
import Derived.Test.YtcgaibkpdihncaaDoorM20
import Derived.Test.YtcgaibkpdihncaaDoorM32
import Derived.Test.YtcgaibkpdihncaaDoorM41
import Derived.Test.YtcgaibkpdihncaaDoorM43
import Derived.Test.YtcgaibkpdihncaaDoorM44
namespace Go.Proofs.YtcgaibkpdihncaaDoor
open Go.RowKit Go.Lib
set_option maxRecDepth 100000 in
theorem wpListI_app {w : World} {ops : Array Oper} {rest : List Oper} {o : Oper} {a : Act} {Q : Exit → Act → World → Prop} (hw : Region.wanted o (yielded ops a.tmps) = true) (s x : Operand)
    (ho : o.op = .call { callee := .builtin .append, args := #[s, x], argTypes := #[22, 22] })
    (base : Nat) (v : Value) (n : Nat) (zs : List Nat) (hs : a.eval s = v) (hown : w.ownsRow base 3 1 v n (nus .i64 zs))
    (ao : Option Addr) (len cap : Nat) (bs : List Nat) (hx : a.eval x = .slice ao len cap) (hr : Rd w (.slice ao len cap) (nus .i64 bs)) (hn : ao = none → cap = 0) (hlen : n + len ≤ 1000000) (hbase : base ≤ w.heap.size)
    (h : ∀ v' w', w'.ownsRow base 3 1 v' (n + len) (nus .i64 (zs ++ bs)) → w.grownBy w' v.ownBlock → wpList Tryd.prog ops Q rest (a.put o.dst v') w') :
    wpList Tryd.prog ops Q (o :: rest) a w := by
  obtain ⟨i0, hi, hz0, hz1, hz2⟩ := info_parts info3
  obtain ⟨a', cap', e, h1, h2, h3⟩ := hr
  simp only [Value.slice.injEq] at e
  obtain ⟨rfl, he, rfl⟩ := e
  rw [nus_length] at he h1 h3
  subst he
  refine BigFrame.wpList_want hw fun K hK => ?_
  cases ao with
  | none =>
    obtain rfl := hn rfl
    have hb : bs = [] := by cases bs with | nil => rfl | cons _ _ => simp at h1
    subst hb
    have hrun := run_append_owned_none (P := Tryd.prog) (w := w) base 22 o.type 3 i0 1 Tryd.underlying22 hi v n (nus .i64 zs) hown
    unfold Oper.wp
    simp [execOp, ho, resolve, invoke, builtin, hs, hx, hrun, Result.andThen]
    exact hK _ _ (h v w (by simpa using hown) (World.grownBy.refl _ _))
  | some ad =>
    refine wp_append_own w s x 22 ho base 3 i0 (.int .i64 0) 1 8 Tryd.underlying22 hi hz0 hz1 hz2 rfl (by decide) v n (nus .i64 zs) hs hown ad bs.length cap (nus .i64 bs) hx (by rw [nus_length]; omega) ?_ (oneCell_nus _ _) (by unfold maxLen; omega) (by omega) hbase ?_
    · intro j u hj
      rcases h3 with h3 | ⟨b, off, e, hb, hcc⟩
      · rw [h3] at hj; simp at hj
      · cases e
        have hjl : j < (nus .i64 bs).length := (List.getElem?_eq_some_iff.1 hj).1
        rw [nus_length] at hjl
        rw [← hj]
        rw [Addr.add_lit]; exact hcc j hjl
    · intro v' w' hown' hgr _
      exact hK _ _ (h v' w' (by rw [nus_append]; exact hown') hgr)
theorem insF_back (c : Cf) (N : Nat) (f : Int → Fl) (l : List Int) (r : Nat) (h : r < l.length) : insF c N f (l.drop r).reverse 0 = insB N (btN c (f (l.getD r 0))) (insF c N f (l.drop (r + 1)).reverse 0) := by
  rw [List.drop_eq_getElem_cons h, List.reverse_cons, insF_snoc, List.getD_eq_getElem?_getD, List.getElem?_eq_getElem h, Option.getD_some]
theorem insF_fore (c : Cf) (N : Nat) (f : Int → Fl) (l : List Int) (n r M : Nat) (hn : n = l.length) (h : r < n) : insF c N f (l.take (n - r)) M = insB N (btN c (f (l.getD (n - 1 - r) 0))) (insF c N f (l.take (n - (r + 1))) M) := by
  have := insF_next c N f l (n - 1 - r) M (by omega)
  rw [show n - 1 - r + 1 = n - r by omega] at this
  rw [this, show n - (r + 1) = n - 1 - r by omega]
theorem any_rev {α : Type} (l : List α) (g : α → Bool) : l.reverse.any g = l.any g := by
  rw [Bool.eq_iff_iff, List.any_eq_true, List.any_eq_true]
  constructor
  · rintro ⟨x, h, q⟩; exact ⟨x, List.mem_reverse.1 h, q⟩
  · rintro ⟨x, h, q⟩; exact ⟨x, List.mem_reverse.2 h, q⟩
theorem insF_both (c : Cf) (N : Nat) (f : Int → Fl) (l m : List Int) : Both (insF c N f l.reverse 0) (insF c N f m 0) (insF c N f m (insF c N f l 0)) := by
  intro q
  rw [insF_bit, insF_bit, insF_bit, insF_bit, Nat.zero_testBit, Bool.false_or, Bool.false_or, Bool.false_or, any_rev]
set_option maxRecDepth 100000 in
set_option maxHeartbeats 4000000 in
theorem union_walk (v0 : Value) (zs0 : List Int) (a : Int) (v2 : Value) (zs2 : List Int) (v3 : Value) (zs3 : List Int) (w : World) (hv0 : Rd w v0 (ivs zs0)) (hv2 : Rd w v2 (ivs zs2)) (hv3 : Rd w v3 (ivs zs3)) (hE : Env w) : Calls Tryd.prog 5 #[v0, .int .i64 a, v2, v3] w fun e w' => e = .returned (.bool true) ∧ Below w.heap.size w w' := by
  have K := Lib.hid (Below.refl w.heap.size w)
  have EN := Lib.hid hE
  have AW := Lib.hid awake_any
  have hq := eqp_some
  have qE := hE.lt
  have VI0 := Lib.hid hv0
  obtain ⟨va0, vc0, rfl, -, -⟩ := rdI_shape hv0
  obtain ⟨ln0, hln0⟩ : ∃ n, n = zs0.length := ⟨_, rfl⟩
  rw [← hln0] at VI0 ⊢
  have HLN0 := Lib.hid hln0
  have VI2 := Lib.hid hv2
  obtain ⟨va2, vc2, rfl, -, -⟩ := rdI_shape hv2
  obtain ⟨ln2, hln2⟩ : ∃ n, n = zs2.length := ⟨_, rfl⟩
  rw [← hln2] at VI2 ⊢
  have HLN2 := Lib.hid hln2
  have VI3 := Lib.hid hv3
  obtain ⟨va3, vc3, rfl, -, -⟩ := rdI_shape hv3
  obtain ⟨ln3, hln3⟩ : ∃ n, n = zs3.length := ⟨_, rfl⟩
  rw [← hln3] at VI3 ⊢
  have HLN3 := Lib.hid hln3
  by_cases h0 : ln0 > 30
  · have e0a : decide ((ln0 : Int) > 30) = true := decide_eq_true (by omega)
    have e0b : decide (ln0 > 30) = true := decide_eq_true (by omega)
    have e0c : decide (30 < ln0) = true := decide_eq_true (by omega)
    clear hv0 hv2 hv3 hE hln0 hln2 hln3 VI0 VI2 VI3 HLN0 HLN2 HLN3 h0
    go_enter Tryd.func5, Tryd.ntmps5
    go_wp2_with fail
    refine (AW.out w EN.out).mono ?_
    rintro e V1 ⟨rfl, hy⟩
    replace K := Lib.hid (K.out.trans (hy.mono K.out.size))
    clear hy
    go_wp2
    go_ret
    exact ⟨rfl, K.out⟩
  by_cases h1 : ln2 > 30
  · have e0a : decide ((ln0 : Int) > 30) = false := decide_eq_false (by omega)
    have e0b : decide (ln0 > 30) = false := decide_eq_false (by omega)
    have e0c : decide (30 < ln0) = false := decide_eq_false (by omega)
    have e1a : decide ((ln2 : Int) > 30) = true := decide_eq_true (by omega)
    have e1b : decide (ln2 > 30) = true := decide_eq_true (by omega)
    have e1c : decide (30 < ln2) = true := decide_eq_true (by omega)
    clear hv0 hv2 hv3 hE hln0 hln2 hln3 VI0 VI2 VI3 HLN0 HLN2 HLN3 h0 h1
    go_enter Tryd.func5, Tryd.ntmps5
    go_wp2_with fail
    refine (AW.out w EN.out).mono ?_
    rintro e V1 ⟨rfl, hy⟩
    replace K := Lib.hid (K.out.trans (hy.mono K.out.size))
    clear hy
    go_wp2
    go_ret
    exact ⟨rfl, K.out⟩
  by_cases h2 : ln3 > 30
  · have e0a : decide ((ln0 : Int) > 30) = false := decide_eq_false (by omega)
    have e0b : decide (ln0 > 30) = false := decide_eq_false (by omega)
    have e0c : decide (30 < ln0) = false := decide_eq_false (by omega)
    have e1a : decide ((ln2 : Int) > 30) = false := decide_eq_false (by omega)
    have e1b : decide (ln2 > 30) = false := decide_eq_false (by omega)
    have e1c : decide (30 < ln2) = false := decide_eq_false (by omega)
    have e2a : decide ((ln3 : Int) > 30) = true := decide_eq_true (by omega)
    have e2b : decide (ln3 > 30) = true := decide_eq_true (by omega)
    have e2c : decide (30 < ln3) = true := decide_eq_true (by omega)
    clear hv0 hv2 hv3 hE hln0 hln2 hln3 VI0 VI2 VI3 HLN0 HLN2 HLN3 h0 h1 h2
    go_enter Tryd.func5, Tryd.ntmps5
    go_wp2_with fail
    refine (AW.out w EN.out).mono ?_
    rintro e V1 ⟨rfl, hy⟩
    replace K := Lib.hid (K.out.trans (hy.mono K.out.size))
    clear hy
    go_wp2
    go_ret
    exact ⟨rfl, K.out⟩
  by_cases h3 : a < 1
  · have e0a : decide ((ln0 : Int) > 30) = false := decide_eq_false (by omega)
    have e0b : decide (ln0 > 30) = false := decide_eq_false (by omega)
    have e0c : decide (30 < ln0) = false := decide_eq_false (by omega)
    have e1a : decide ((ln2 : Int) > 30) = false := decide_eq_false (by omega)
    have e1b : decide (ln2 > 30) = false := decide_eq_false (by omega)
    have e1c : decide (30 < ln2) = false := decide_eq_false (by omega)
    have e2a : decide ((ln3 : Int) > 30) = false := decide_eq_false (by omega)
    have e2b : decide (ln3 > 30) = false := decide_eq_false (by omega)
    have e2c : decide (30 < ln3) = false := decide_eq_false (by omega)
    have e3a : decide (a < 1) = true := decide_eq_true (by omega)
    clear hv0 hv2 hv3 hE hln0 hln2 hln3 VI0 VI2 VI3 HLN0 HLN2 HLN3 h0 h1 h2 h3
    go_enter Tryd.func5, Tryd.ntmps5
    go_wp2_with fail
    refine (AW.out w EN.out).mono ?_
    rintro e V1 ⟨rfl, hy⟩
    replace K := Lib.hid (K.out.trans (hy.mono K.out.size))
    clear hy
    go_wp2
    go_ret
    exact ⟨rfl, K.out⟩
  by_cases h4 : a > 65536
  · have e0a : decide ((ln0 : Int) > 30) = false := decide_eq_false (by omega)
    have e0b : decide (ln0 > 30) = false := decide_eq_false (by omega)
    have e0c : decide (30 < ln0) = false := decide_eq_false (by omega)
    have e1a : decide ((ln2 : Int) > 30) = false := decide_eq_false (by omega)
    have e1b : decide (ln2 > 30) = false := decide_eq_false (by omega)
    have e1c : decide (30 < ln2) = false := decide_eq_false (by omega)
    have e2a : decide ((ln3 : Int) > 30) = false := decide_eq_false (by omega)
    have e2b : decide (ln3 > 30) = false := decide_eq_false (by omega)
    have e2c : decide (30 < ln3) = false := decide_eq_false (by omega)
    have e3a : decide (a < 1) = false := decide_eq_false (by omega)
    have e4a : decide (a > 65536) = true := decide_eq_true (by omega)
    have e4b : decide (65536 < a) = true := decide_eq_true (by omega)
    clear hv0 hv2 hv3 hE hln0 hln2 hln3 VI0 VI2 VI3 HLN0 HLN2 HLN3 h0 h1 h2 h3 h4
    go_enter Tryd.func5, Tryd.ntmps5
    go_wp2_with fail
    refine (AW.out w EN.out).mono ?_
    rintro e V1 ⟨rfl, hy⟩
    replace K := Lib.hid (K.out.trans (hy.mono K.out.size))
    clear hy
    go_wp2
    go_ret
    exact ⟨rfl, K.out⟩
  have e0a : decide ((ln0 : Int) > 30) = false := decide_eq_false (by omega)
  have e0b : decide (ln0 > 30) = false := decide_eq_false (by omega)
  have e0c : decide (30 < ln0) = false := decide_eq_false (by omega)
  have e1a : decide ((ln2 : Int) > 30) = false := decide_eq_false (by omega)
  have e1b : decide (ln2 > 30) = false := decide_eq_false (by omega)
  have e1c : decide (30 < ln2) = false := decide_eq_false (by omega)
  have e2a : decide ((ln3 : Int) > 30) = false := decide_eq_false (by omega)
  have e2b : decide (ln3 > 30) = false := decide_eq_false (by omega)
  have e2c : decide (30 < ln3) = false := decide_eq_false (by omega)
  have e3a : decide (a < 1) = false := decide_eq_false (by omega)
  have e4a : decide (a > 65536) = false := decide_eq_false (by omega)
  have e4b : decide (65536 < a) = false := decide_eq_false (by omega)
  obtain ⟨N, rfl⟩ : ∃ N : Nat, a = (N : Int) := ⟨a.toNat, by omega⟩
  have CF := Lib.hid (fun W h => config_any (.slice va0 ln0 vc0) zs0 W h)
  obtain ⟨c, hcr⟩ : ∃ c, c = cfg zs0 := ⟨_, rfl⟩
  have hc : c.Fit := by rw [hcr]; exact cfg_fit zs0
  have hok : okC c = true := by rw [hcr]; exact cfg_ok zs0
  rw [← hcr] at CF
  have CN := Lib.hid (fun W => new_yes c hc hok W)
  have CB := Lib.hid (fun gf W h1 h2 => fs_new c gf N (by omega) (by omega) W h1 h2)
  obtain ⟨f, hf⟩ : ∃ f : Int → Fl, f = fun x => kflow x true true := ⟨_, rfl⟩
  have hff : ∀ x, (f x).Fit := fun x => by rw [hf]; exact kflow_fit _ _ _
  have hfv : ∀ x, vK (f x) = true := fun x => by rw [hf]; exact kflow_vK _ _ _
  have CK : Hid (∀ x W, Calls Tryd.prog 12 #[.int .i64 x, .bool true, .bool true] W fun e w' => e = .returned (.agg (f x).cs) ∧ Below W.heap.size W w') := fun x W => by rw [hf]; exact flow_any x true true W
  have CI := Lib.hid (fun x gf gF gW L M W h => fs_ins c hc hok (f x) (hff x) (hfv x) gf gF gW N L M W h)
  have CO := Lib.hid (fun gf gF gW L M W h => fs_ones c gf gF gW N L M (-1) W h)
  simp only [cut_alln] at CO
  obtain ⟨p, hp⟩ : ∃ p : Int → List Nat, p = fun x => btN c (f x) := ⟨_, rfl⟩
  have hp2 : ∀ x, btN c (f x) = p x := fun x => by rw [hp]
  obtain ⟨MX, hMX⟩ : ∃ MX : Nat → Nat, MX = fun r => insF c N f (zs2.drop r).reverse 0 := ⟨_, rfl⟩
  obtain ⟨MZ, hMZ⟩ : ∃ MZ : Nat → Nat, MZ = fun r => insF c N f (zs2.take (ln2 - r)) 0 := ⟨_, rfl⟩
  obtain ⟨MY, hMY⟩ : ∃ MY : Nat → Nat, MY = fun j => insF c N f (zs3.take j) 0 := ⟨_, rfl⟩
  obtain ⟨MU, hMU⟩ : ∃ MU : Nat → Nat, MU = fun j => insF c N f (zs3.take j) (MZ 0) := ⟨_, rfl⟩
  have HX1 := Lib.hid (show ∀ r, r < ln2 → MX r = insB N (p (zs2.getD r 0)) (MX (r + 1)) from fun r hr => by rw [hMX, hp]; exact insF_back c N f zs2 r (by omega))
  have HZ1 := Lib.hid (show ∀ r, r < ln2 → MZ r = insB N (p (zs2.getD (ln2 - 1 - r) 0)) (MZ (r + 1)) from fun r hr => by rw [hMZ, hp]; exact insF_fore c N f zs2 ln2 r 0 hln2 hr)
  have HY1 := Lib.hid (show ∀ j, j < ln3 → MY (j + 1) = insB N (p (zs3.getD j 0)) (MY j) from fun j hj => by rw [hMY, hp]; exact insF_next c N f zs3 j 0 (by omega))
  have HU1 := Lib.hid (show ∀ j, j < ln3 → MU (j + 1) = insB N (p (zs3.getD j 0)) (MU j) from fun j hj => by rw [hMU, hp]; exact insF_next c N f zs3 j _ (by omega))
  have HX0 : Hid (0 = MX ln2) := by show 0 = MX ln2; rw [hMX, hln2]; show 0 = insF c N f (zs2.drop zs2.length).reverse 0; rw [List.drop_length]; rfl
  have HZ0 : Hid (0 = MZ ln2) := by show 0 = MZ ln2; rw [hMZ]; show 0 = insF c N f (zs2.take (ln2 - ln2)) 0; rw [Nat.sub_self]; rfl
  have HY0 : Hid (0 = MY 0) := by show 0 = MY 0; rw [hMY]; rfl
  have HU0 : Hid (MZ 0 = MU 0) := by show MZ 0 = MU 0; rw [hMU]; rfl
  have HBO : Hid (Both (MX 0) (MY ln3) (MU ln3)) := by
    show Both _ _ _
    have := insF_both c N f zs2 zs3
    rw [hMX, hMY, hMU, hMZ, hln2, hln3]
    show Both (insF c N f (zs2.drop 0).reverse 0) (insF c N f (zs3.take zs3.length) 0) (insF c N f (zs3.take zs3.length) (insF c N f (zs2.take (zs2.length - 0)) 0))
    rw [List.drop_zero, List.take_length, Nat.sub_zero, List.take_length]
    exact this
  simp only [hp2] at CI
  obtain ⟨fc, hfc⟩ : ∃ fc : Int → Array Value, fc = fun x => (f x).cs := ⟨_, rfl⟩
  have hfc2 : ∀ x, (f x).cs = fc x := fun x => by rw [hfc]
  simp only [hfc2] at CK CI
  generalize c.cs = cc at *
  have hN : N ≤ 65536 := by omega
  clear hc hok hff hfv hf hcr hv0 hv2 hv3 hE hln0 hln2 hln3 hp hp2 hMX hMY hMZ hMU hfc hfc2
  clear HLN0
  go_enter Tryd.func5, Tryd.ntmps5
  go_wp2_with fail
  refine (CF.out w VI0.out).mono ?_
  rintro e V1 ⟨rfl, hy⟩
  replace K := Lib.hid (K.out.trans (hy.mono K.out.size))
  clear hy
  go_wp2_with fail
  refine (CN.out V1).mono ?_
  rintro e V2 ⟨⟨gf, rfl, hgf, hF⟩, hy⟩
  replace K := Lib.hid (K.out.trans (hy.mono K.out.size))
  have F := Lib.hid hF
  clear hF
  clear hy
  go_wp2_with fail
  have qK := K.out.size
  refine (CB.out gf V2 F.out (EN.out.below K.out qE)).mono ?_
  rintro e V3 ⟨⟨gFx, gWx, Lx, rfl, hS, hgW, hgF⟩, hy⟩
  replace K := Lib.hid (K.out.trans (hy.mono K.out.size))
  replace F := Lib.hid (F.out.below hy F.out.lt)
  have hwx : w.heap.size ≤ gWx := Nat.le_trans qK hgW
  have hax : V2.heap.size ≤ gWx ∧ V2.heap.size ≤ gFx := ⟨hgW, hgF⟩
  have Sx := Lib.hid hS
  obtain ⟨-, lFx, lWx⟩ := Sx.out.lts
  clear hS hgW hgF qK
  clear hy
  go_wp2_with fail
  have qK := K.out.size
  refine (CB.out gf V3 F.out (EN.out.below K.out qE)).mono ?_
  rintro e V4 ⟨⟨gFy, gWy, Ly, rfl, hS, hgW, hgF⟩, hy⟩
  replace K := Lib.hid (K.out.trans (hy.mono K.out.size))
  replace F := Lib.hid (F.out.below hy F.out.lt)
  replace Sx := Lib.hid (Sx.out.below hy)
  have hwy : w.heap.size ≤ gWy := Nat.le_trans qK hgW
  have hay : V3.heap.size ≤ gWy ∧ V3.heap.size ≤ gFy := ⟨hgW, hgF⟩
  have Sy := Lib.hid hS
  obtain ⟨-, lFy, lWy⟩ := Sy.out.lts
  clear hS hgW hgF qK
  clear hy
  go_wp2_with fail
  have qK := K.out.size
  refine (CB.out gf V4 F.out (EN.out.below K.out qE)).mono ?_
  rintro e V5 ⟨⟨gFz, gWz, Lz, rfl, hS, hgW, hgF⟩, hy⟩
  replace K := Lib.hid (K.out.trans (hy.mono K.out.size))
  replace F := Lib.hid (F.out.below hy F.out.lt)
  replace Sx := Lib.hid (Sx.out.below hy)
  replace Sy := Lib.hid (Sy.out.below hy)
  have hwz : w.heap.size ≤ gWz := Nat.le_trans qK hgW
  have haz : V4.heap.size ≤ gWz ∧ V4.heap.size ≤ gFz := ⟨hgW, hgF⟩
  have Sz := Lib.hid hS
  obtain ⟨-, lFz, lWz⟩ := Sz.out.lts
  clear hS hgW hgF qK
  clear hy
  clear F hgf
  have nxy : gWx ≠ gFy ∧ gWx ≠ gWy ∧ gWx ≠ gFz ∧ gWx ≠ gWz ∧ gWy ≠ gFx ∧ gWy ≠ gWx ∧ gWy ≠ gFz ∧ gWy ≠ gWz ∧ gWz ≠ gFx ∧ gWz ≠ gWx ∧ gWz ≠ gFy ∧ gWz ≠ gWy := by omega
  have hpos : 0 < gWx ∧ 0 < gWy ∧ 0 < gWz := by omega
  have ND := Lib.hid nxy
  clear nxy hax hay haz lFx lWx lFy lWy lFz lWz
  have u0 : IntKind.i64.wrap ((ln2 : Int) - 1) = (ln2 : Int) - 1 := by rw [IntKind.wrap_i64]; omega
  rw [HX0.out] at Sx
  rw [HZ0.out] at Sz
  rw [HY0.out] at Sy
  go_wp2
  go_loopw [17] (fun i wr => ∃ r : Nat, r ≤ ln2 ∧ i = .int .i64 ((r : Int) - 1) ∧ Hid (FS c gf gFx gWx N Lx (MX r) wr) ∧ Hid (FS c gf gFy gWy N Ly (MY 0) wr) ∧ Hid (FS c gf gFz gWz N Lz (MZ r) wr) ∧ Hid (Below w.heap.size w wr)) (fun i _ => ((RowKit.intOf i) + 1).toNat)
  case atStart => exact ⟨ln2, Nat.le_refl _, rfl, Sx, Sy, Sz, K⟩
  case round =>
    obtain ⟨r, hr, rfl, Sxr, Syr, Szr, Kr⟩ := hrel
    clear Sx Sy Sz K u0
    by_cases hr0 : r = 0
    · subst hr0
      rw [show ((0 : Nat) : Int) - 1 = -1 from rfl]
      have d7 : decide ((-1 : Int) ≥ 0) = false := by decide
      rw [HU0.out] at Szr
      go_wp2
      go_loopw [18] (fun i wr => ∃ j : Nat, j ≤ ln3 ∧ i = .int .i64 (j : Int) ∧ Hid (FS c gf gFx gWx N Lx (MX 0) wr) ∧ Hid (FS c gf gFy gWy N Ly (MY j) wr) ∧ Hid (FS c gf gFz gWz N Lz (MU j) wr) ∧ Hid (Below w.heap.size w wr)) (fun i _ => ln3 - (RowKit.intOf i).toNat)
      case atStart => exact ⟨0, by omega, rfl, Sxr, Syr, Szr, Kr⟩
      case round =>
        obtain ⟨j, hj, rfl, Sxq, Syq, Szq, Kq⟩ := hrel
        clear Sxr Syr Szr Kr
        have Sxr := Sxq
        have Syr := Syq
        have Szr := Szq
        have Kr := Kq
        clear Sxq Syq Szq Kq
        by_cases hlt : j < ln3
        · have f8 : decide ((j : Int) < (ln3 : Int)) = true := decide_eq_true (by omega)
          have f9 : decide (j < ln3) = true := decide_eq_true (by omega)
          have hb2 : 0 ≤ (j : Int) ∧ (j : Int) < (ln3 : Int) := by omega
          obtain ⟨bb, off, e, _⟩ := RdI.cells VI3.out (by have := HLN3.out; omega)
          subst e
          have HCE := Lib.hid (fun k (hk : k < ln3) W (h : Below w.heap.size w W) => by obtain ⟨b', o', e', hc⟩ := RdI.cells (VI3.out.below h) (by have := HLN3.out; omega); cases e'; exact hc k (by have := HLN3.out; omega))
          have HYs := Lib.hid (HY1.out j hlt)
          have HUs := Lib.hid (HU1.out j hlt)
          have HCs := Lib.hid (HCE.out j hlt)
          generalize zs3.getD j 0 = x at *
          have CIy := Lib.hid (fun W h => CI.out x gf gFy gWy Ly (MY j) W h)
          have CIz := Lib.hid (fun W h => CI.out x gf gFz gWz Lz (MU j) W h)
          rw [← HYs.out] at CIy
          rw [← HUs.out] at CIz
          have w6 : IntKind.i64.wrap ((j : Int) + 1) = ((j + 1 : Nat) : Int) := by rw [IntKind.wrap_i64]; omega
          have c0 := HCs.out _ Kr.out
          go_wp2_with fail
          clear c0
          refine (CK.out x wr).mono ?_
          rintro e V46 ⟨rfl, hy⟩
          replace Sxr := Lib.hid (Sxr.out.below hy)
          replace Syr := Lib.hid (Syr.out.below hy)
          replace Szr := Lib.hid (Szr.out.below hy)
          replace Kr := Lib.hid (Kr.out.trans (hy.mono Kr.out.size))
          clear hy
          go_wp2_with fail
          refine (CIy.out V46 Syr.out).mono ?_
          rintro e V47 ⟨rfl, hs2, gr⟩
          obtain ⟨dxFy, dxWy, dxFz, dxWz, dyFx, dyWx, dyFz, dyWz, dzFx, dzWx, dzFy, dzWy⟩ := ND.out
          replace Kr := Lib.hid (Kr.out.grown gr Kr.out.size (fun k e => by cases e; exact hwy))
          replace Sxr := Lib.hid (Sxr.out.grown gr Syr.out.d2 dyFx dyWx Syr.out.d3)
          replace Szr := Lib.hid (Szr.out.grown gr Syr.out.d2 dyFz dyWz Syr.out.d3)
          replace Syr := Lib.hid hs2
          clear hs2 gr dxFy dxWy dxFz dxWz dyFx dyWx dyFz dyWz dzFx dzWx dzFy dzWy
          have c0 := HCs.out _ Kr.out
          go_wp2_with fail
          clear c0
          refine (CK.out x V47).mono ?_
          rintro e V48 ⟨rfl, hy⟩
          replace Sxr := Lib.hid (Sxr.out.below hy)
          replace Syr := Lib.hid (Syr.out.below hy)
          replace Szr := Lib.hid (Szr.out.below hy)
          replace Kr := Lib.hid (Kr.out.trans (hy.mono Kr.out.size))
          clear hy
          go_wp2_with fail
          refine (CIz.out V48 Szr.out).mono ?_
          rintro e V49 ⟨rfl, hs2, gr⟩
          obtain ⟨dxFy, dxWy, dxFz, dxWz, dyFx, dyWx, dyFz, dyWz, dzFx, dzWx, dzFy, dzWy⟩ := ND.out
          replace Kr := Lib.hid (Kr.out.grown gr Kr.out.size (fun k e => by cases e; exact hwz))
          replace Sxr := Lib.hid (Sxr.out.grown gr Szr.out.d2 dzFx dzWx Szr.out.d3)
          replace Syr := Lib.hid (Syr.out.grown gr Szr.out.d2 dzFy dzWy Szr.out.d3)
          replace Szr := Lib.hid hs2
          clear hs2 gr dxFy dxWy dxFz dxWz dyFx dyWx dyFz dyWz dzFx dzWx dzFy dzWy
          go_wp2
          go_roundw
          case rel => exact ⟨j + 1, by omega, by go_num, Sxr, Syr, Szr, Kr⟩
          case measure => simp [RowKit.intOf]; omega
        · obtain rfl : j = ln3 := by omega
          have f8 : decide (((j : Nat) : Int) < (j : Int)) = false := decide_eq_false (by omega)
          have f9 : decide (j < j) = false := decide_eq_false (by omega)
          have COx := Lib.hid (fun W h => CO.out gf gFx gWx Lx (MX 0) W h)
          have COy := Lib.hid (fun W h => CO.out gf gFy gWy Ly (MY j) W h)
          have COz := Lib.hid (fun W h => CO.out gf gFz gWz Lz (MU j) W h)
          have HBj := HBO
          generalize MX 0 = X at *
          generalize MY j = Y at *
          generalize MU j = Z at *
          clear HX1 HZ1 HY1 HU1 HX0 HZ0 HY0 HU0 CI CO CK
          go_wp2_with fail
          refine (COx.out wr Sxr.out).mono ?_
          rintro e V66 ⟨xp, rfl, hx, hy⟩
          replace Sxr := Lib.hid (Sxr.out.below hy)
          replace Syr := Lib.hid (Syr.out.below hy)
          replace Szr := Lib.hid (Szr.out.below hy)
          replace Kr := Lib.hid (Kr.out.trans (hy.mono Kr.out.size))
          have P := Lib.hid (own_low (b1 := 0) (Nat.zero_le _) hx)
          clear hx
          clear hy
          go_wp2_with fail
          refine (COy.out V66 Syr.out).mono ?_
          rintro e V67 ⟨xq, rfl, hx, hy⟩
          replace Sxr := Lib.hid (Sxr.out.below hy)
          replace Syr := Lib.hid (Syr.out.below hy)
          replace Szr := Lib.hid (Szr.out.below hy)
          replace Kr := Lib.hid (Kr.out.trans (hy.mono Kr.out.size))
          replace P := Lib.hid (row_under P.out hy)
          have Qr := Lib.hid (own_low (b1 := 0) (Nat.zero_le _) hx)
          clear hx
          clear hy
          go_wp2_with fail
          refine (COz.out V67 Szr.out).mono ?_
          rintro e V68 ⟨xr, rfl, hx, hy⟩
          replace Sxr := Lib.hid (Sxr.out.below hy)
          replace Syr := Lib.hid (Syr.out.below hy)
          replace Szr := Lib.hid (Szr.out.below hy)
          replace Kr := Lib.hid (Kr.out.trans (hy.mono Kr.out.size))
          replace P := Lib.hid (row_under P.out hy)
          replace Qr := Lib.hid (row_under Qr.out hy)
          have Rr := Lib.hid (own_low (b1 := 0) (Nat.zero_le _) hx)
          clear hx
          clear hy
          obtain ⟨pa, pc, rfl⟩ := row_shape P.out
          obtain ⟨qa, qc, rfl⟩ := row_shape Qr.out
          obtain ⟨ra, rc, rfl⟩ := row_shape Rr.out
          obtain ⟨np, hnp⟩ : ∃ n, n = (bitsL X N).length := ⟨_, rfl⟩
          obtain ⟨nq, hnq⟩ : ∃ n, n = (bitsL Y N).length := ⟨_, rfl⟩
          rw [← hnp] at P ⊢
          rw [← hnq] at Qr ⊢
          have HNP := Lib.hid hnp
          have HNQ := Lib.hid hnq
          have hnp2 : np ≤ 65536 := by rw [hnp]; exact Nat.le_trans (bitsL_le X N) hN
          have hnq2 : nq ≤ 65536 := by rw [hnq]; exact Nat.le_trans (bitsL_le Y N) hN
          have hZ2 := Lib.hid (Nat.le_trans (bitsL_le Z N) hN)
          have RPV := Lib.hid (Rd.own P.out)
          have RQV := Lib.hid (Rd.own Qr.out)
          have RRV := Lib.hid (Rd.own Rr.out)
          have KB := Lib.hid (Below.refl V68.heap.size V68)
          have A0 : Hid (World.ownsRow V68 V68.heap.size 3 1 (.slice none 0 0) (bitsL Z 0).length (nus .i64 (bitsL Z 0))) := World.ownsRow_nil _ _ _ _
          have hV0 := Kr.out.size
          clear hnp hnq P Qr Rr Sxr Syr Szr COx COy COz
          go_wp2
          go_loopw [22, 23, 24] (fun i k l wr => ∃ (t : Nat) (u : Value), t ≤ N ∧ i = .int .i64 ((bitsL X t).length : Int) ∧ k = .int .i64 ((bitsL Y t).length : Int) ∧ l = u ∧ Hid (wr.ownsRow V68.heap.size 3 1 u (bitsL Z t).length (nus .i64 (bitsL Z t))) ∧ Hid (Below V68.heap.size V68 wr) ∧ Hid (Below w.heap.size w wr)) (fun i k _ _ => np - (RowKit.intOf i).toNat + (nq - (RowKit.intOf k).toNat))
          case atStart => exact ⟨0, _, Nat.zero_le _, rfl, rfl, rfl, A0, KB, Kr⟩
          case round =>
            obtain ⟨t, u, ht, rfl, rfl, hu, Ar, KBr, Kq⟩ := hrel
            have hu := hu.symm
            subst hu
            clear A0 KB Kr
            obtain ⟨s, hs⟩ : ∃ s, s = (bitsL X t).length := ⟨_, rfl⟩
            obtain ⟨r, hr⟩ : ∃ r, r = (bitsL Y t).length := ⟨_, rfl⟩
            have hsp : s ≤ np := by
              obtain ⟨x, hx⟩ := bitsL_pre X t N ht
              rw [hs, HNP.out, hx, List.length_append]; omega
            have hrq : r ≤ nq := by
              obtain ⟨x, hx⟩ := bitsL_pre Y t N ht
              rw [hr, HNQ.out, hx, List.length_append]; omega
            rw [← hs, ← hr]
            have HS := Lib.hid hs
            have HR := Lib.hid hr
            have hzl := bitsL_le Z t
            have HZL := Lib.hid (show (bitsL Z t).length + 1 ≤ 1000000 by omega)
            clear hs hr hzl
            have ws : IntKind.i64.wrap ((s : Int) + 1) = ((s + 1 : Nat) : Int) := by rw [IntKind.wrap_i64]; omega
            have wr2 : IntKind.i64.wrap ((r : Int) + 1) = ((r + 1 : Nat) : Int) := by rw [IntKind.wrap_i64]; omega
            by_cases h1 : s < np
            · have m1a : decide ((s : Int) < (np : Int)) = true := decide_eq_true (by omega)
              have m1b : decide (s < np) = true := decide_eq_true (by omega)
              obtain ⟨px, hpx⟩ := nxt_more X N t ht (by rw [← HS.out, ← HNP.out]; exact h1)
              have HPX := Lib.hid (nxt_get hpx)
              rw [← HS.out] at HPX
              obtain ⟨pb, po, pe, _⟩ := RPV.out.cells (by omega)
              subst pe
              have HCp := Lib.hid (fun W (h : Below V68.heap.size V68 W) => by obtain ⟨b1, o1, e1, hc⟩ := (RPV.out.below h).cells (by omega); cases e1; exact hc s (by omega))
              have hpb : 0 ≤ (s : Int) ∧ (s : Int) < (np : Int) := by omega
              rw [HPX.out] at HCp
              have m3a : ((s : Int) == (np : Int)) = false := by rw [beq_eq_false_iff_ne]; omega
              have m3b : (s == np) = false := by rw [beq_eq_false_iff_ne]; omega
              have m3c : decide (s = np) = false := decide_eq_false (by omega)
              by_cases h2 : r < nq
              · have m2a : decide ((r : Int) < (nq : Int)) = true := decide_eq_true (by omega)
                have m2b : decide (r < nq) = true := decide_eq_true (by omega)
                obtain ⟨qy, hqy⟩ := nxt_more Y N t ht (by rw [← HR.out, ← HNQ.out]; exact h2)
                have HQY := Lib.hid (nxt_get hqy)
                rw [← HR.out] at HQY
                obtain ⟨qb, qo, qe, _⟩ := RQV.out.cells (by omega)
                subst qe
                have HCq := Lib.hid (fun W (h : Below V68.heap.size V68 W) => by obtain ⟨b1, o1, e1, hc⟩ := (RQV.out.below h).cells (by omega); cases e1; exact hc r (by omega))
                have hqb : 0 ≤ (r : Int) ∧ (r : Int) < (nq : Int) := by omega
                rw [HQY.out] at HCq
                have m4a : ((r : Int) == (nq : Int)) = false := by rw [beq_eq_false_iff_ne]; omega
                have m4b : (r == nq) = false := by rw [beq_eq_false_iff_ne]; omega
                have m4c : decide (r = nq) = false := decide_eq_false (by omega)
                by_cases h3 : px < qy
                · have m5a : decide ((px : Int) < (qy : Int)) = true := decide_eq_true (by omega)
                  have m5b : decide (px < qy) = true := decide_eq_true (by omega)
                  obtain ⟨m1, m2, m3, m4⟩ := merge_one HBO.out hpx (fun i i1 i2 => hqy.2.2.2 i i1 (by omega))
                  rw [← HS.out] at m1
                  rw [← HR.out] at m2
                  have LX := Lib.hid m1
                  have LY := Lib.hid m2
                  have LZ := Lib.hid m3
                  have LE := Lib.hid m4
                  clear m1 m2 m3 m4
                  clear hpx hqy
                  go_wp2_with fail
                  refine wp_region_held (S := (fun w' : World => Below (wr.heap.size) wr w')) (by kernel_rfl) ?_
                  change wpAnyH _ _ _ _ _ _ _ _ wr.drew
                  have hy : Below wr.heap.size wr wr.drew := (Below.refl _ _).drew
                  have hE0 : Below (wr.heap.size) wr wr.drew := (Below.refl _ _).drew
                  clear hy
                  generalize wr.drew = Y26x0 at hE0  ⊢
                  have E0 := Lib.hid hE0
                  clear hE0
                  refine tkA 0 (?_) ?_ E0.out ?_
                  rotate_left
                  · (intro w1 hS; go_simp; try with_reducible rfl)
                  simp only [Act.put, tS1, tS2, tS3]
                  refine tkA 1 (?_) ?_ E0.out ?_
                  rotate_left
                  · (intro w1 hS; go_simp; try with_reducible rfl)
                  simp only [Act.put, tS1, tS2, tS3]
                  refine tkA 2 (?_) ?_ E0.out ?_
                  rotate_left
                  · (intro w1 hS; go_simp; try with_reducible rfl)
                  simp only [Act.put, tS1, tS2, tS3]
                  refine tkA 3 (?_) ?_ E0.out ?_
                  rotate_left
                  · (intro w1 hS; go_simp; try with_reducible rfl)
                  simp only [Act.put, tS1, tS2, tS3]
                  refine tkA 4 (?_) ?_ E0.out ?_
                  rotate_left
                  · (intro w1 hS; go_simp; try with_reducible rfl)
                  simp only [Act.put, tS1, tS2, tS3]
                  refine tkA 5 (?_) ?_ E0.out ?_
                  rotate_left
                  · (intro w1 hS; go_simp; try with_reducible rfl)
                  simp only [Act.put, tS1, tS2, tS3]
                  refine tkA 6 (?_) ?_ E0.out ?_
                  rotate_left
                  · (intro w1 hS; go_simp; try with_reducible rfl)
                  simp only [Act.put, tS1, tS2, tS3]
                  refine tkA 7 (?_) ?_ E0.out ?_
                  rotate_left
                  · (intro w1 hS; go_simp; try with_reducible rfl)
                  simp only [Act.put, tS1, tS2, tS3]
                  refine tkA 8 (?_) ?_ E0.out ?_
                  rotate_left
                  · (intro w1 hS; go_simp; try with_reducible rfl)
                  simp only [Act.put, tS1, tS2, tS3]
                  refine tkA 9 (?_) ?_ E0.out ?_
                  rotate_left
                  · (intro w1 hS; go_simp; try with_reducible rfl)
                  simp only [Act.put, tS1, tS2, tS3]
                  refine tkA 10 (?_) ?_ E0.out ?_
                  rotate_left
                  · (intro w1 hS; go_simp; try with_reducible rfl)
                  simp only [Act.put, tS1, tS2, tS3]
                  refine tkA 11 (?_) ?_ E0.out ?_
                  rotate_left
                  · (intro w1 hS; go_simp; try with_reducible rfl)
                  simp only [Act.put, tS1, tS2, tS3]
                  refine tkA 12 (?_) ?_ E0.out ?_
                  rotate_left
                  · (intro w1 hS; go_simp; try with_reducible rfl)
                  simp only [Act.put, tS1, tS2, tS3]
                  refine tkA 13 (?_) ?_ E0.out ?_
                  rotate_left
                  · (intro w1 hS; have hW := hS; have q := HCp.out w1 (KBr.out.trans (hW.mono KBr.out.size)); clear hW hS; go_simp; try with_reducible rfl)
                  simp only [Act.put, tS1, tS2, tS3]
                  refine tkA 14 (?_) ?_ E0.out ?_
                  rotate_left
                  · (intro w1 hS; go_simp; try with_reducible rfl)
                  simp only [Act.put, tS1, tS2, tS3]
                  refine tkA 15 (?_) ?_ E0.out ?_
                  rotate_left
                  · (intro w1 hS; go_simp; try with_reducible rfl)
                  simp only [Act.put, tS1, tS2, tS3]
                  refine tkA 16 (?_) ?_ E0.out ?_
                  rotate_left
                  · (intro w1 hS; go_simp; try with_reducible rfl)
                  simp only [Act.put, tS1, tS2, tS3]
                  refine tkA 17 (?_) ?_ E0.out ?_
                  rotate_left
                  · (intro w1 hS; have hW := hS; have q := HCq.out w1 (KBr.out.trans (hW.mono KBr.out.size)); clear hW hS; go_simp; try with_reducible rfl)
                  simp only [Act.put, tS1, tS2, tS3]
                  refine tkA 18 (?_) ?_ E0.out ?_
                  rotate_left
                  · (intro w1 hS; go_simp; try with_reducible rfl)
                  simp only [Act.put, tS1, tS2, tS3]
                  refine tkA 19 (?_) ?_ E0.out ?_
                  rotate_left
                  · (intro w1 hS; go_simp; try with_reducible rfl)
                  simp only [Act.put, tS1, tS2, tS3]
                  refine tkA 20 (?_) ?_ E0.out ?_
                  rotate_left
                  · (intro w1 hS; go_simp; try with_reducible rfl)
                  simp only [Act.put, tS1, tS2, tS3]
                  refine tkA 21 (?_) ?_ E0.out ?_
                  rotate_left
                  · (intro w1 hS; go_simp; try with_reducible rfl)
                  simp only [Act.put, tS1, tS2, tS3]
                  refine wpAnyH_done (by kernel_rfl) ?_ _
                  have hy := E0.out
                  replace Ar := Lib.hid (row_under Ar.out hy)
                  replace KBr := Lib.hid (KBr.out.trans (hy.mono KBr.out.size))
                  replace Kq := Lib.hid (Kq.out.trans (hy.mono Kq.out.size))
                  clear hy E0
                  have c0 := HCp.out _ KBr.out
                  have hal := (Below.refl Y26x0.heap.size Y26x0).alloc (Nat.le_refl _) (.cells #[.int .i64 (px : Int)] 3)
                  replace Ar := Lib.hid (row_under Ar.out hal)
                  replace KBr := Lib.hid (KBr.out.trans (hal.mono KBr.out.size))
                  replace Kq := Lib.hid (Kq.out.trans (hal.mono Kq.out.size))
                  have LT := Lib.hid (show Rd (Y26x0.alloc (.cells #[.int .i64 (px : Int)] 3)) (.slice (some ⟨Y26x0.heap.size, 0, none⟩) 1 1) (nus .i64 [px]) from rd_lit Y26x0 .i64 3 [px] 1 (0, 0) rfl (by decide))
                  go_wp2_with (at_builtin; refine wpListI_app rfl (.tmp 187) (.tmp 192) rfl V68.heap.size _ _ (bitsL Z t) rfl Ar.out (some ⟨Y26x0.heap.size, 0, none⟩) 1 1 [px] rfl LT.out (by intro e; cases e) ?apa1 ?apb1 ?apc1)
                  case apa1 => exact HZL.out
                  case apb1 => exact KBr.out.size
                  intro vx V201 oz gz
                  replace KBr := Lib.hid (KBr.out.grown gz KBr.out.size (fun k e => (Ar.out.lt k e).1))
                  replace Kq := Lib.hid (Kq.out.grown gz Kq.out.size (fun k e => Nat.le_trans hV0 (Ar.out.lt k e).1))
                  replace Ar := Lib.hid oz
                  clear oz gz hal LT c0
                  go_wp2
                  go_roundw
                  case rel => exact ⟨px + 1, _, LE.out, by rw [LX.out] <;> go_num, by rw [LY.out] <;> go_num, rfl, by rw [LZ.out, List.length_append]; exact Ar, KBr, Kq⟩
                  case measure => simp [RowKit.intOf]; omega
                · by_cases h4 : qy < px
                  · have m5a : decide ((px : Int) < (qy : Int)) = false := decide_eq_false (by omega)
                    have m5b : decide (px < qy) = false := decide_eq_false (by omega)
                    have m6a : decide ((qy : Int) < (px : Int)) = true := decide_eq_true (by omega)
                    have m6b : decide (qy < px) = true := decide_eq_true (by omega)
                    obtain ⟨m2, m1, m3, m4⟩ := merge_one HBO.out.symm hqy (fun i i1 i2 => hpx.2.2.2 i i1 (by omega))
                    rw [← HS.out] at m1
                    rw [← HR.out] at m2
                    have LX := Lib.hid m1
                    have LY := Lib.hid m2
                    have LZ := Lib.hid m3
                    have LE := Lib.hid m4
                    clear m1 m2 m3 m4
                    clear hpx hqy
                    go_wp2_with fail
                    refine wp_region_held (S := (fun w' : World => Below (wr.heap.size) wr w')) (by kernel_rfl) ?_
                    change wpAnyH _ _ _ _ _ _ _ _ wr.drew
                    have hy : Below wr.heap.size wr wr.drew := (Below.refl _ _).drew
                    have hE0 : Below (wr.heap.size) wr wr.drew := (Below.refl _ _).drew
                    clear hy
                    generalize wr.drew = Y26x0 at hE0  ⊢
                    have E0 := Lib.hid hE0
                    clear hE0
                    refine tkA 0 (?_) ?_ E0.out ?_
                    rotate_left
                    · (intro w1 hS; go_simp; try with_reducible rfl)
                    simp only [Act.put, tS1, tS2, tS3]
                    refine tkA 1 (?_) ?_ E0.out ?_
                    rotate_left
                    · (intro w1 hS; go_simp; try with_reducible rfl)
                    simp only [Act.put, tS1, tS2, tS3]
                    refine tkA 2 (?_) ?_ E0.out ?_
                    rotate_left
                    · (intro w1 hS; go_simp; try with_reducible rfl)
                    simp only [Act.put, tS1, tS2, tS3]
                    refine tkA 3 (?_) ?_ E0.out ?_
                    rotate_left
                    · (intro w1 hS; go_simp; try with_reducible rfl)
                    simp only [Act.put, tS1, tS2, tS3]
                    refine tkA 4 (?_) ?_ E0.out ?_
                    rotate_left
                    · (intro w1 hS; go_simp; try with_reducible rfl)
                    simp only [Act.put, tS1, tS2, tS3]
                    refine tkA 5 (?_) ?_ E0.out ?_
                    rotate_left
                    · (intro w1 hS; go_simp; try with_reducible rfl)
                    simp only [Act.put, tS1, tS2, tS3]
                    refine tkA 6 (?_) ?_ E0.out ?_
                    rotate_left
                    · (intro w1 hS; go_simp; try with_reducible rfl)
                    simp only [Act.put, tS1, tS2, tS3]
                    refine tkA 7 (?_) ?_ E0.out ?_
                    rotate_left
                    · (intro w1 hS; go_simp; try with_reducible rfl)
                    simp only [Act.put, tS1, tS2, tS3]
                    refine tkA 8 (?_) ?_ E0.out ?_
                    rotate_left
                    · (intro w1 hS; go_simp; try with_reducible rfl)
                    simp only [Act.put, tS1, tS2, tS3]
                    refine tkA 9 (?_) ?_ E0.out ?_
                    rotate_left
                    · (intro w1 hS; go_simp; try with_reducible rfl)
                    simp only [Act.put, tS1, tS2, tS3]
                    refine tkA 10 (?_) ?_ E0.out ?_
                    rotate_left
                    · (intro w1 hS; go_simp; try with_reducible rfl)
                    simp only [Act.put, tS1, tS2, tS3]
                    refine tkA 11 (?_) ?_ E0.out ?_
                    rotate_left
                    · (intro w1 hS; go_simp; try with_reducible rfl)
                    simp only [Act.put, tS1, tS2, tS3]
                    refine tkA 12 (?_) ?_ E0.out ?_
                    rotate_left
                    · (intro w1 hS; go_simp; try with_reducible rfl)
                    simp only [Act.put, tS1, tS2, tS3]
                    refine tkA 13 (?_) ?_ E0.out ?_
                    rotate_left
                    · (intro w1 hS; have hW := hS; have q := HCp.out w1 (KBr.out.trans (hW.mono KBr.out.size)); clear hW hS; go_simp; try with_reducible rfl)
                    simp only [Act.put, tS1, tS2, tS3]
                    refine tkA 14 (?_) ?_ E0.out ?_
                    rotate_left
                    · (intro w1 hS; go_simp; try with_reducible rfl)
                    simp only [Act.put, tS1, tS2, tS3]
                    refine tkA 15 (?_) ?_ E0.out ?_
                    rotate_left
                    · (intro w1 hS; go_simp; try with_reducible rfl)
                    simp only [Act.put, tS1, tS2, tS3]
                    refine tkA 16 (?_) ?_ E0.out ?_
                    rotate_left
                    · (intro w1 hS; go_simp; try with_reducible rfl)
                    simp only [Act.put, tS1, tS2, tS3]
                    refine tkA 17 (?_) ?_ E0.out ?_
                    rotate_left
                    · (intro w1 hS; have hW := hS; have q := HCq.out w1 (KBr.out.trans (hW.mono KBr.out.size)); clear hW hS; go_simp; try with_reducible rfl)
                    simp only [Act.put, tS1, tS2, tS3]
                    refine tkA 18 (?_) ?_ E0.out ?_
                    rotate_left
                    · (intro w1 hS; go_simp; try with_reducible rfl)
                    simp only [Act.put, tS1, tS2, tS3]
                    refine tkA 19 (?_) ?_ E0.out ?_
                    rotate_left
                    · (intro w1 hS; go_simp; try with_reducible rfl)
                    simp only [Act.put, tS1, tS2, tS3]
                    refine tkA 20 (?_) ?_ E0.out ?_
                    rotate_left
                    · (intro w1 hS; go_simp; try with_reducible rfl)
                    simp only [Act.put, tS1, tS2, tS3]
                    refine tkA 21 (?_) ?_ E0.out ?_
                    rotate_left
                    · (intro w1 hS; go_simp; try with_reducible rfl)
                    simp only [Act.put, tS1, tS2, tS3]
                    refine wpAnyH_done (by kernel_rfl) ?_ _
                    have hy := E0.out
                    replace Ar := Lib.hid (row_under Ar.out hy)
                    replace KBr := Lib.hid (KBr.out.trans (hy.mono KBr.out.size))
                    replace Kq := Lib.hid (Kq.out.trans (hy.mono Kq.out.size))
                    clear hy E0
                    go_wp2_with fail
                    refine wp_region_held (S := (fun w' : World => Below (Y26x0.heap.size) Y26x0 w')) (by kernel_rfl) ?_
                    change wpAnyH _ _ _ _ _ _ _ _ Y26x0.drew
                    have hy : Below Y26x0.heap.size Y26x0 Y26x0.drew := (Below.refl _ _).drew
                    have hE0 : Below (Y26x0.heap.size) Y26x0 Y26x0.drew := (Below.refl _ _).drew
                    clear hy
                    generalize Y26x0.drew = Y29x0 at hE0  ⊢
                    have E0 := Lib.hid hE0
                    clear hE0
                    refine tkA 0 (?_) ?_ E0.out ?_
                    rotate_left
                    · (intro w1 hS; go_simp; try with_reducible rfl)
                    simp only [Act.put, tS1, tS2, tS3]
                    refine tkA 1 (?_) ?_ E0.out ?_
                    rotate_left
                    · (intro w1 hS; go_simp; try with_reducible rfl)
                    simp only [Act.put, tS1, tS2, tS3]
                    refine tkA 2 (?_) ?_ E0.out ?_
                    rotate_left
                    · (intro w1 hS; go_simp; try with_reducible rfl)
                    simp only [Act.put, tS1, tS2, tS3]
                    refine tkA 3 (?_) ?_ E0.out ?_
                    rotate_left
                    · (intro w1 hS; go_simp; try with_reducible rfl)
                    simp only [Act.put, tS1, tS2, tS3]
                    refine tkA 4 (?_) ?_ E0.out ?_
                    rotate_left
                    · (intro w1 hS; go_simp; try with_reducible rfl)
                    simp only [Act.put, tS1, tS2, tS3]
                    refine tkA 5 (?_) ?_ E0.out ?_
                    rotate_left
                    · (intro w1 hS; go_simp; try with_reducible rfl)
                    simp only [Act.put, tS1, tS2, tS3]
                    refine tkA 6 (?_) ?_ E0.out ?_
                    rotate_left
                    · (intro w1 hS; go_simp; try with_reducible rfl)
                    simp only [Act.put, tS1, tS2, tS3]
                    refine tkA 7 (?_) ?_ E0.out ?_
                    rotate_left
                    · (intro w1 hS; go_simp; try with_reducible rfl)
                    simp only [Act.put, tS1, tS2, tS3]
                    refine tkA 8 (?_) ?_ E0.out ?_
                    rotate_left
                    · (intro w1 hS; have hW := hS; have q := HCq.out w1 (KBr.out.trans (hW.mono KBr.out.size)); clear hW hS; go_simp; try with_reducible rfl)
                    simp only [Act.put, tS1, tS2, tS3]
                    refine tkA 9 (?_) ?_ E0.out ?_
                    rotate_left
                    · (intro w1 hS; go_simp; try with_reducible rfl)
                    simp only [Act.put, tS1, tS2, tS3]
                    refine tkA 10 (?_) ?_ E0.out ?_
                    rotate_left
                    · (intro w1 hS; go_simp; try with_reducible rfl)
                    simp only [Act.put, tS1, tS2, tS3]
                    refine tkA 11 (?_) ?_ E0.out ?_
                    rotate_left
                    · (intro w1 hS; go_simp; try with_reducible rfl)
                    simp only [Act.put, tS1, tS2, tS3]
                    refine tkA 12 (?_) ?_ E0.out ?_
                    rotate_left
                    · (intro w1 hS; have hW := hS; have q := HCp.out w1 (KBr.out.trans (hW.mono KBr.out.size)); clear hW hS; go_simp; try with_reducible rfl)
                    simp only [Act.put, tS1, tS2, tS3]
                    refine tkA 13 (?_) ?_ E0.out ?_
                    rotate_left
                    · (intro w1 hS; go_simp; try with_reducible rfl)
                    simp only [Act.put, tS1, tS2, tS3]
                    refine tkA 14 (?_) ?_ E0.out ?_
                    rotate_left
                    · (intro w1 hS; go_simp; try with_reducible rfl)
                    simp only [Act.put, tS1, tS2, tS3]
                    refine tkA 15 (?_) ?_ E0.out ?_
                    rotate_left
                    · (intro w1 hS; go_simp; try with_reducible rfl)
                    simp only [Act.put, tS1, tS2, tS3]
                    refine wpAnyH_done (by kernel_rfl) ?_ _
                    have hy := E0.out
                    replace Ar := Lib.hid (row_under Ar.out hy)
                    replace KBr := Lib.hid (KBr.out.trans (hy.mono KBr.out.size))
                    replace Kq := Lib.hid (Kq.out.trans (hy.mono Kq.out.size))
                    clear hy E0
                    have c0 := HCq.out _ KBr.out
                    have hal := (Below.refl Y29x0.heap.size Y29x0).alloc (Nat.le_refl _) (.cells #[.int .i64 (qy : Int)] 3)
                    replace Ar := Lib.hid (row_under Ar.out hal)
                    replace KBr := Lib.hid (KBr.out.trans (hal.mono KBr.out.size))
                    replace Kq := Lib.hid (Kq.out.trans (hal.mono Kq.out.size))
                    have LT := Lib.hid (show Rd (Y29x0.alloc (.cells #[.int .i64 (qy : Int)] 3)) (.slice (some ⟨Y29x0.heap.size, 0, none⟩) 1 1) (nus .i64 [qy]) from rd_lit Y29x0 .i64 3 [qy] 1 (0, 0) rfl (by decide))
                    go_wp2_with (at_builtin; refine wpListI_app rfl (.tmp 212) (.tmp 217) rfl V68.heap.size _ _ (bitsL Z t) rfl Ar.out (some ⟨Y29x0.heap.size, 0, none⟩) 1 1 [qy] rfl LT.out (by intro e; cases e) ?apa2 ?apb2 ?apc2)
                    case apa2 => exact HZL.out
                    case apb2 => exact KBr.out.size
                    intro vx V301 oz gz
                    replace KBr := Lib.hid (KBr.out.grown gz KBr.out.size (fun k e => (Ar.out.lt k e).1))
                    replace Kq := Lib.hid (Kq.out.grown gz Kq.out.size (fun k e => Nat.le_trans hV0 (Ar.out.lt k e).1))
                    replace Ar := Lib.hid oz
                    clear oz gz hal LT c0
                    go_wp2
                    go_roundw
                    case rel => exact ⟨qy + 1, _, LE.out, by rw [LX.out] <;> go_num, by rw [LY.out] <;> go_num, rfl, by rw [LZ.out, List.length_append]; exact Ar, KBr, Kq⟩
                    case measure => simp [RowKit.intOf]; omega
                  · obtain rfl : px = qy := by omega
                    have m5a : decide ((px : Int) < (px : Int)) = false := decide_eq_false (by omega)
                    have m5b : decide (px < px) = false := decide_eq_false (by omega)
                    obtain ⟨m1, m2, m3, m4⟩ := merge_two HBO.out hpx hqy
                    rw [← HS.out] at m1
                    rw [← HR.out] at m2
                    have LX := Lib.hid m1
                    have LY := Lib.hid m2
                    have LZ := Lib.hid m3
                    have LE := Lib.hid m4
                    clear m1 m2 m3 m4
                    clear hpx hqy
                    go_wp2_with fail
                    refine wp_region_held (S := (fun w' : World => Below (wr.heap.size) wr w')) (by kernel_rfl) ?_
                    change wpAnyH _ _ _ _ _ _ _ _ wr.drew
                    have hy : Below wr.heap.size wr wr.drew := (Below.refl _ _).drew
                    have hE0 : Below (wr.heap.size) wr wr.drew := (Below.refl _ _).drew
                    clear hy
                    generalize wr.drew = Y26x0 at hE0  ⊢
                    have E0 := Lib.hid hE0
                    clear hE0
                    refine tkA 0 (?_) ?_ E0.out ?_
                    rotate_left
                    · (intro w1 hS; go_simp; try with_reducible rfl)
                    simp only [Act.put, tS1, tS2, tS3]
                    refine tkA 1 (?_) ?_ E0.out ?_
                    rotate_left
                    · (intro w1 hS; go_simp; try with_reducible rfl)
                    simp only [Act.put, tS1, tS2, tS3]
                    refine tkA 2 (?_) ?_ E0.out ?_
                    rotate_left
                    · (intro w1 hS; go_simp; try with_reducible rfl)
                    simp only [Act.put, tS1, tS2, tS3]
                    refine tkA 3 (?_) ?_ E0.out ?_
                    rotate_left
                    · (intro w1 hS; go_simp; try with_reducible rfl)
                    simp only [Act.put, tS1, tS2, tS3]
                    refine tkA 4 (?_) ?_ E0.out ?_
                    rotate_left
                    · (intro w1 hS; go_simp; try with_reducible rfl)
                    simp only [Act.put, tS1, tS2, tS3]
                    refine tkA 5 (?_) ?_ E0.out ?_
                    rotate_left
                    · (intro w1 hS; go_simp; try with_reducible rfl)
                    simp only [Act.put, tS1, tS2, tS3]
                    refine tkA 6 (?_) ?_ E0.out ?_
                    rotate_left
                    · (intro w1 hS; go_simp; try with_reducible rfl)
                    simp only [Act.put, tS1, tS2, tS3]
                    refine tkA 7 (?_) ?_ E0.out ?_
                    rotate_left
                    · (intro w1 hS; go_simp; try with_reducible rfl)
                    simp only [Act.put, tS1, tS2, tS3]
                    refine tkA 8 (?_) ?_ E0.out ?_
                    rotate_left
                    · (intro w1 hS; go_simp; try with_reducible rfl)
                    simp only [Act.put, tS1, tS2, tS3]
                    refine tkA 9 (?_) ?_ E0.out ?_
                    rotate_left
                    · (intro w1 hS; go_simp; try with_reducible rfl)
                    simp only [Act.put, tS1, tS2, tS3]
                    refine tkA 10 (?_) ?_ E0.out ?_
                    rotate_left
                    · (intro w1 hS; go_simp; try with_reducible rfl)
                    simp only [Act.put, tS1, tS2, tS3]
                    refine tkA 11 (?_) ?_ E0.out ?_
                    rotate_left
                    · (intro w1 hS; go_simp; try with_reducible rfl)
                    simp only [Act.put, tS1, tS2, tS3]
                    refine tkA 12 (?_) ?_ E0.out ?_
                    rotate_left
                    · (intro w1 hS; go_simp; try with_reducible rfl)
                    simp only [Act.put, tS1, tS2, tS3]
                    refine tkA 13 (?_) ?_ E0.out ?_
                    rotate_left
                    · (intro w1 hS; have hW := hS; have q := HCp.out w1 (KBr.out.trans (hW.mono KBr.out.size)); clear hW hS; go_simp; try with_reducible rfl)
                    simp only [Act.put, tS1, tS2, tS3]
                    refine tkA 14 (?_) ?_ E0.out ?_
                    rotate_left
                    · (intro w1 hS; go_simp; try with_reducible rfl)
                    simp only [Act.put, tS1, tS2, tS3]
                    refine tkA 15 (?_) ?_ E0.out ?_
                    rotate_left
                    · (intro w1 hS; go_simp; try with_reducible rfl)
                    simp only [Act.put, tS1, tS2, tS3]
                    refine tkA 16 (?_) ?_ E0.out ?_
                    rotate_left
                    · (intro w1 hS; go_simp; try with_reducible rfl)
                    simp only [Act.put, tS1, tS2, tS3]
                    refine tkA 17 (?_) ?_ E0.out ?_
                    rotate_left
                    · (intro w1 hS; have hW := hS; have q := HCq.out w1 (KBr.out.trans (hW.mono KBr.out.size)); clear hW hS; go_simp; try with_reducible rfl)
                    simp only [Act.put, tS1, tS2, tS3]
                    refine tkA 18 (?_) ?_ E0.out ?_
                    rotate_left
                    · (intro w1 hS; go_simp; try with_reducible rfl)
                    simp only [Act.put, tS1, tS2, tS3]
                    refine tkA 19 (?_) ?_ E0.out ?_
                    rotate_left
                    · (intro w1 hS; go_simp; try with_reducible rfl)
                    simp only [Act.put, tS1, tS2, tS3]
                    refine tkA 20 (?_) ?_ E0.out ?_
                    rotate_left
                    · (intro w1 hS; go_simp; try with_reducible rfl)
                    simp only [Act.put, tS1, tS2, tS3]
                    refine tkA 21 (?_) ?_ E0.out ?_
                    rotate_left
                    · (intro w1 hS; go_simp; try with_reducible rfl)
                    simp only [Act.put, tS1, tS2, tS3]
                    refine wpAnyH_done (by kernel_rfl) ?_ _
                    have hy := E0.out
                    replace Ar := Lib.hid (row_under Ar.out hy)
                    replace KBr := Lib.hid (KBr.out.trans (hy.mono KBr.out.size))
                    replace Kq := Lib.hid (Kq.out.trans (hy.mono Kq.out.size))
                    clear hy E0
                    go_wp2_with fail
                    refine wp_region_held (S := (fun w' : World => Below (Y26x0.heap.size) Y26x0 w')) (by kernel_rfl) ?_
                    change wpAnyH _ _ _ _ _ _ _ _ Y26x0.drew
                    have hy : Below Y26x0.heap.size Y26x0 Y26x0.drew := (Below.refl _ _).drew
                    have hE0 : Below (Y26x0.heap.size) Y26x0 Y26x0.drew := (Below.refl _ _).drew
                    clear hy
                    generalize Y26x0.drew = Y29x0 at hE0  ⊢
                    have E0 := Lib.hid hE0
                    clear hE0
                    refine tkA 0 (?_) ?_ E0.out ?_
                    rotate_left
                    · (intro w1 hS; go_simp; try with_reducible rfl)
                    simp only [Act.put, tS1, tS2, tS3]
                    refine tkA 1 (?_) ?_ E0.out ?_
                    rotate_left
                    · (intro w1 hS; go_simp; try with_reducible rfl)
                    simp only [Act.put, tS1, tS2, tS3]
                    refine tkA 2 (?_) ?_ E0.out ?_
                    rotate_left
                    · (intro w1 hS; go_simp; try with_reducible rfl)
                    simp only [Act.put, tS1, tS2, tS3]
                    refine tkA 3 (?_) ?_ E0.out ?_
                    rotate_left
                    · (intro w1 hS; go_simp; try with_reducible rfl)
                    simp only [Act.put, tS1, tS2, tS3]
                    refine tkA 4 (?_) ?_ E0.out ?_
                    rotate_left
                    · (intro w1 hS; go_simp; try with_reducible rfl)
                    simp only [Act.put, tS1, tS2, tS3]
                    refine tkA 5 (?_) ?_ E0.out ?_
                    rotate_left
                    · (intro w1 hS; go_simp; try with_reducible rfl)
                    simp only [Act.put, tS1, tS2, tS3]
                    refine tkA 6 (?_) ?_ E0.out ?_
                    rotate_left
                    · (intro w1 hS; go_simp; try with_reducible rfl)
                    simp only [Act.put, tS1, tS2, tS3]
                    refine tkA 7 (?_) ?_ E0.out ?_
                    rotate_left
                    · (intro w1 hS; go_simp; try with_reducible rfl)
                    simp only [Act.put, tS1, tS2, tS3]
                    refine tkA 8 (?_) ?_ E0.out ?_
                    rotate_left
                    · (intro w1 hS; have hW := hS; have q := HCq.out w1 (KBr.out.trans (hW.mono KBr.out.size)); clear hW hS; go_simp; try with_reducible rfl)
                    simp only [Act.put, tS1, tS2, tS3]
                    refine tkA 9 (?_) ?_ E0.out ?_
                    rotate_left
                    · (intro w1 hS; go_simp; try with_reducible rfl)
                    simp only [Act.put, tS1, tS2, tS3]
                    refine tkA 10 (?_) ?_ E0.out ?_
                    rotate_left
                    · (intro w1 hS; go_simp; try with_reducible rfl)
                    simp only [Act.put, tS1, tS2, tS3]
                    refine tkA 11 (?_) ?_ E0.out ?_
                    rotate_left
                    · (intro w1 hS; go_simp; try with_reducible rfl)
                    simp only [Act.put, tS1, tS2, tS3]
                    refine tkA 12 (?_) ?_ E0.out ?_
                    rotate_left
                    · (intro w1 hS; have hW := hS; have q := HCp.out w1 (KBr.out.trans (hW.mono KBr.out.size)); clear hW hS; go_simp; try with_reducible rfl)
                    simp only [Act.put, tS1, tS2, tS3]
                    refine tkA 13 (?_) ?_ E0.out ?_
                    rotate_left
                    · (intro w1 hS; go_simp; try with_reducible rfl)
                    simp only [Act.put, tS1, tS2, tS3]
                    refine tkA 14 (?_) ?_ E0.out ?_
                    rotate_left
                    · (intro w1 hS; go_simp; try with_reducible rfl)
                    simp only [Act.put, tS1, tS2, tS3]
                    refine tkA 15 (?_) ?_ E0.out ?_
                    rotate_left
                    · (intro w1 hS; go_simp; try with_reducible rfl)
                    simp only [Act.put, tS1, tS2, tS3]
                    refine wpAnyH_done (by kernel_rfl) ?_ _
                    have hy := E0.out
                    replace Ar := Lib.hid (row_under Ar.out hy)
                    replace KBr := Lib.hid (KBr.out.trans (hy.mono KBr.out.size))
                    replace Kq := Lib.hid (Kq.out.trans (hy.mono Kq.out.size))
                    clear hy E0
                    have c0 := HCp.out _ KBr.out
                    have hal := (Below.refl Y29x0.heap.size Y29x0).alloc (Nat.le_refl _) (.cells #[.int .i64 (px : Int)] 3)
                    replace Ar := Lib.hid (row_under Ar.out hal)
                    replace KBr := Lib.hid (KBr.out.trans (hal.mono KBr.out.size))
                    replace Kq := Lib.hid (Kq.out.trans (hal.mono Kq.out.size))
                    have LT := Lib.hid (show Rd (Y29x0.alloc (.cells #[.int .i64 (px : Int)] 3)) (.slice (some ⟨Y29x0.heap.size, 0, none⟩) 1 1) (nus .i64 [px]) from rd_lit Y29x0 .i64 3 [px] 1 (0, 0) rfl (by decide))
                    go_wp2_with (at_builtin; refine wpListI_app rfl (.tmp 154) (.tmp 159) rfl V68.heap.size _ _ (bitsL Z t) rfl Ar.out (some ⟨Y29x0.heap.size, 0, none⟩) 1 1 [px] rfl LT.out (by intro e; cases e) ?apa3 ?apb3 ?apc3)
                    case apa3 => exact HZL.out
                    case apb3 => exact KBr.out.size
                    intro vx V401 oz gz
                    replace KBr := Lib.hid (KBr.out.grown gz KBr.out.size (fun k e => (Ar.out.lt k e).1))
                    replace Kq := Lib.hid (Kq.out.grown gz Kq.out.size (fun k e => Nat.le_trans hV0 (Ar.out.lt k e).1))
                    replace Ar := Lib.hid oz
                    clear oz gz hal LT c0
                    go_wp2
                    go_roundw
                    case rel => exact ⟨px + 1, _, LE.out, by rw [LX.out] <;> go_num, by rw [LY.out] <;> go_num, rfl, by rw [LZ.out, List.length_append]; exact Ar, KBr, Kq⟩
                    case measure => simp [RowKit.intOf]; omega
              · obtain rfl : r = nq := by omega
                have m2a : decide ((r : Int) < (r : Int)) = false := decide_eq_false (by omega)
                have m2b : decide (r < r) = false := decide_eq_false (by omega)
                have m4a : ((r : Int) == (r : Int)) = true := by simp
                have m4b : (r == r) = true := by simp
                have m4c : decide (r = r) = true := decide_eq_true (by omega)
                have hye := nxt_end Y N t ht (by rw [← HR.out, ← HNQ.out])
                obtain ⟨m1, m2, m3, m4⟩ := merge_one HBO.out hpx (fun i i1 i2 => hye i i1 (by have := hpx.2.1; omega))
                rw [← HS.out] at m1
                rw [← HR.out] at m2
                have LX := Lib.hid m1
                have LY := Lib.hid m2
                have LZ := Lib.hid m3
                have LE := Lib.hid m4
                clear m1 m2 m3 m4
                clear hpx hye
                go_wp2_with fail
                refine wp_region_held (S := (fun w' : World => Below (wr.heap.size) wr w')) (by kernel_rfl) ?_
                change wpAnyH _ _ _ _ _ _ _ _ wr.drew
                have hy : Below wr.heap.size wr wr.drew := (Below.refl _ _).drew
                have hE0 : Below (wr.heap.size) wr wr.drew := (Below.refl _ _).drew
                clear hy
                generalize wr.drew = Y26x0 at hE0  ⊢
                have E0 := Lib.hid hE0
                clear hE0
                refine tkA 0 (?_) ?_ E0.out ?_
                rotate_left
                · (intro w1 hS; go_simp; try with_reducible rfl)
                simp only [Act.put, tS1, tS2, tS3]
                refine tkA 1 (?_) ?_ E0.out ?_
                rotate_left
                · (intro w1 hS; go_simp; try with_reducible rfl)
                simp only [Act.put, tS1, tS2, tS3]
                refine tkA 2 (?_) ?_ E0.out ?_
                rotate_left
                · (intro w1 hS; go_simp; try with_reducible rfl)
                simp only [Act.put, tS1, tS2, tS3]
                refine tkA 3 (?_) ?_ E0.out ?_
                rotate_left
                · (intro w1 hS; go_simp; try with_reducible rfl)
                simp only [Act.put, tS1, tS2, tS3]
                refine tkA 4 (?_) ?_ E0.out ?_
                rotate_left
                · (intro w1 hS; go_simp; try with_reducible rfl)
                simp only [Act.put, tS1, tS2, tS3]
                refine tkN 5 E0.out ?_
                simp only [Act.put, tS1, tS2, tS3]
                refine tkN 6 E0.out ?_
                simp only [Act.put, tS1, tS2, tS3]
                refine tkN 7 E0.out ?_
                simp only [Act.put, tS1, tS2, tS3]
                refine tkN 8 E0.out ?_
                simp only [Act.put, tS1, tS2, tS3]
                refine tkN 9 E0.out ?_
                simp only [Act.put, tS1, tS2, tS3]
                refine tkN 10 E0.out ?_
                simp only [Act.put, tS1, tS2, tS3]
                refine tkN 11 E0.out ?_
                simp only [Act.put, tS1, tS2, tS3]
                refine tkN 12 E0.out ?_
                simp only [Act.put, tS1, tS2, tS3]
                refine tkN 13 E0.out ?_
                simp only [Act.put, tS1, tS2, tS3]
                refine tkN 14 E0.out ?_
                simp only [Act.put, tS1, tS2, tS3]
                refine tkN 15 E0.out ?_
                simp only [Act.put, tS1, tS2, tS3]
                refine tkN 16 E0.out ?_
                simp only [Act.put, tS1, tS2, tS3]
                refine tkN 17 E0.out ?_
                simp only [Act.put, tS1, tS2, tS3]
                refine tkN 18 E0.out ?_
                simp only [Act.put, tS1, tS2, tS3]
                refine tkN 19 E0.out ?_
                simp only [Act.put, tS1, tS2, tS3]
                refine tkA 20 (?_) ?_ E0.out ?_
                rotate_left
                · (intro w1 hS; go_simp; try with_reducible rfl)
                simp only [Act.put, tS1, tS2, tS3]
                refine tkA 21 (?_) ?_ E0.out ?_
                rotate_left
                · (intro w1 hS; go_simp; try with_reducible rfl)
                simp only [Act.put, tS1, tS2, tS3]
                refine wpAnyH_done (by kernel_rfl) ?_ _
                have hy := E0.out
                replace Ar := Lib.hid (row_under Ar.out hy)
                replace KBr := Lib.hid (KBr.out.trans (hy.mono KBr.out.size))
                replace Kq := Lib.hid (Kq.out.trans (hy.mono Kq.out.size))
                clear hy E0
                have c0 := HCp.out _ KBr.out
                have hal := (Below.refl Y26x0.heap.size Y26x0).alloc (Nat.le_refl _) (.cells #[.int .i64 (px : Int)] 3)
                replace Ar := Lib.hid (row_under Ar.out hal)
                replace KBr := Lib.hid (KBr.out.trans (hal.mono KBr.out.size))
                replace Kq := Lib.hid (Kq.out.trans (hal.mono Kq.out.size))
                have LT := Lib.hid (show Rd (Y26x0.alloc (.cells #[.int .i64 (px : Int)] 3)) (.slice (some ⟨Y26x0.heap.size, 0, none⟩) 1 1) (nus .i64 [px]) from rd_lit Y26x0 .i64 3 [px] 1 (0, 0) rfl (by decide))
                go_wp2_with (at_builtin; refine wpListI_app rfl (.tmp 187) (.tmp 192) rfl V68.heap.size _ _ (bitsL Z t) rfl Ar.out (some ⟨Y26x0.heap.size, 0, none⟩) 1 1 [px] rfl LT.out (by intro e; cases e) ?apa4 ?apb4 ?apc4)
                case apa4 => exact HZL.out
                case apb4 => exact KBr.out.size
                intro vx V501 oz gz
                replace KBr := Lib.hid (KBr.out.grown gz KBr.out.size (fun k e => (Ar.out.lt k e).1))
                replace Kq := Lib.hid (Kq.out.grown gz Kq.out.size (fun k e => Nat.le_trans hV0 (Ar.out.lt k e).1))
                replace Ar := Lib.hid oz
                clear oz gz hal LT c0
                go_wp2
                go_roundw
                case rel => exact ⟨px + 1, _, LE.out, by rw [LX.out] <;> go_num, by rw [LY.out] <;> go_num, rfl, by rw [LZ.out, List.length_append]; exact Ar, KBr, Kq⟩
                case measure => simp [RowKit.intOf]; omega
            · obtain rfl : s = np := by omega
              have m1a : decide ((s : Int) < (s : Int)) = false := decide_eq_false (by omega)
              have m1b : decide (s < s) = false := decide_eq_false (by omega)
              have m3a : ((s : Int) == (s : Int)) = true := by simp
              have m3b : (s == s) = true := by simp
              have m3c : decide (s = s) = true := decide_eq_true (by omega)
              by_cases h2 : r < nq
              · have m2a : decide ((r : Int) < (nq : Int)) = true := decide_eq_true (by omega)
                have m2b : decide (r < nq) = true := decide_eq_true (by omega)
                obtain ⟨qy, hqy⟩ := nxt_more Y N t ht (by rw [← HR.out, ← HNQ.out]; exact h2)
                have HQY := Lib.hid (nxt_get hqy)
                rw [← HR.out] at HQY
                obtain ⟨qb, qo, qe, _⟩ := RQV.out.cells (by omega)
                subst qe
                have HCq := Lib.hid (fun W (h : Below V68.heap.size V68 W) => by obtain ⟨b1, o1, e1, hc⟩ := (RQV.out.below h).cells (by omega); cases e1; exact hc r (by omega))
                have hqb : 0 ≤ (r : Int) ∧ (r : Int) < (nq : Int) := by omega
                rw [HQY.out] at HCq
                have m4a : ((r : Int) == (nq : Int)) = false := by rw [beq_eq_false_iff_ne]; omega
                have m4b : (r == nq) = false := by rw [beq_eq_false_iff_ne]; omega
                have m4c : decide (r = nq) = false := decide_eq_false (by omega)
                have hxe := nxt_end X N t ht (by rw [← HS.out, ← HNP.out])
                obtain ⟨m2, m1, m3, m4⟩ := merge_one HBO.out.symm hqy (fun i i1 i2 => hxe i i1 (by have := hqy.2.1; omega))
                rw [← HS.out] at m1
                rw [← HR.out] at m2
                have LX := Lib.hid m1
                have LY := Lib.hid m2
                have LZ := Lib.hid m3
                have LE := Lib.hid m4
                clear m1 m2 m3 m4
                clear hqy hxe
                go_wp2_with fail
                refine wp_region_held (S := (fun w' : World => Below (wr.heap.size) wr w')) (by kernel_rfl) ?_
                change wpAnyH _ _ _ _ _ _ _ _ wr.drew
                have hy : Below wr.heap.size wr wr.drew := (Below.refl _ _).drew
                have hE0 : Below (wr.heap.size) wr wr.drew := (Below.refl _ _).drew
                clear hy
                generalize wr.drew = Y26x0 at hE0  ⊢
                have E0 := Lib.hid hE0
                clear hE0
                refine tkA 0 (?_) ?_ E0.out ?_
                rotate_left
                · (intro w1 hS; go_simp; try with_reducible rfl)
                simp only [Act.put, tS1, tS2, tS3]
                refine tkA 1 (?_) ?_ E0.out ?_
                rotate_left
                · (intro w1 hS; go_simp; try with_reducible rfl)
                simp only [Act.put, tS1, tS2, tS3]
                refine tkA 2 (?_) ?_ E0.out ?_
                rotate_left
                · (intro w1 hS; go_simp; try with_reducible rfl)
                simp only [Act.put, tS1, tS2, tS3]
                refine tkA 3 (?_) ?_ E0.out ?_
                rotate_left
                · (intro w1 hS; go_simp; try with_reducible rfl)
                simp only [Act.put, tS1, tS2, tS3]
                refine tkA 4 (?_) ?_ E0.out ?_
                rotate_left
                · (intro w1 hS; go_simp; try with_reducible rfl)
                simp only [Act.put, tS1, tS2, tS3]
                refine tkA 5 (?_) ?_ E0.out ?_
                rotate_left
                · (intro w1 hS; go_simp; try with_reducible rfl)
                simp only [Act.put, tS1, tS2, tS3]
                refine tkA 6 (?_) ?_ E0.out ?_
                rotate_left
                · (intro w1 hS; go_simp; try with_reducible rfl)
                simp only [Act.put, tS1, tS2, tS3]
                refine tkA 7 (?_) ?_ E0.out ?_
                rotate_left
                · (intro w1 hS; go_simp; try with_reducible rfl)
                simp only [Act.put, tS1, tS2, tS3]
                refine tkA 8 (?_) ?_ E0.out ?_
                rotate_left
                · (intro w1 hS; go_simp; try with_reducible rfl)
                simp only [Act.put, tS1, tS2, tS3]
                refine tkA 9 (?_) ?_ E0.out ?_
                rotate_left
                · (intro w1 hS; go_simp; try with_reducible rfl)
                simp only [Act.put, tS1, tS2, tS3]
                refine tkN 10 E0.out ?_
                simp only [Act.put, tS1, tS2, tS3]
                refine tkN 11 E0.out ?_
                simp only [Act.put, tS1, tS2, tS3]
                refine tkN 12 E0.out ?_
                simp only [Act.put, tS1, tS2, tS3]
                refine tkN 13 E0.out ?_
                simp only [Act.put, tS1, tS2, tS3]
                refine tkN 14 E0.out ?_
                simp only [Act.put, tS1, tS2, tS3]
                refine tkN 15 E0.out ?_
                simp only [Act.put, tS1, tS2, tS3]
                refine tkN 16 E0.out ?_
                simp only [Act.put, tS1, tS2, tS3]
                refine tkN 17 E0.out ?_
                simp only [Act.put, tS1, tS2, tS3]
                refine tkN 18 E0.out ?_
                simp only [Act.put, tS1, tS2, tS3]
                refine tkA 19 (?_) ?_ E0.out ?_
                rotate_left
                · (intro w1 hS; go_simp; try with_reducible rfl)
                simp only [Act.put, tS1, tS2, tS3]
                refine tkA 20 (?_) ?_ E0.out ?_
                rotate_left
                · (intro w1 hS; go_simp; try with_reducible rfl)
                simp only [Act.put, tS1, tS2, tS3]
                refine tkA 21 (?_) ?_ E0.out ?_
                rotate_left
                · (intro w1 hS; go_simp; try with_reducible rfl)
                simp only [Act.put, tS1, tS2, tS3]
                refine wpAnyH_done (by kernel_rfl) ?_ _
                have hy := E0.out
                replace Ar := Lib.hid (row_under Ar.out hy)
                replace KBr := Lib.hid (KBr.out.trans (hy.mono KBr.out.size))
                replace Kq := Lib.hid (Kq.out.trans (hy.mono Kq.out.size))
                clear hy E0
                go_wp2_with fail
                refine wp_region_held (S := (fun w' : World => Below (Y26x0.heap.size) Y26x0 w')) (by kernel_rfl) ?_
                change wpAnyH _ _ _ _ _ _ _ _ Y26x0.drew
                have hy : Below Y26x0.heap.size Y26x0 Y26x0.drew := (Below.refl _ _).drew
                have hE0 : Below (Y26x0.heap.size) Y26x0 Y26x0.drew := (Below.refl _ _).drew
                clear hy
                generalize Y26x0.drew = Y29x0 at hE0  ⊢
                have E0 := Lib.hid hE0
                clear hE0
                refine tkA 0 (?_) ?_ E0.out ?_
                rotate_left
                · (intro w1 hS; go_simp; try with_reducible rfl)
                simp only [Act.put, tS1, tS2, tS3]
                refine tkA 1 (?_) ?_ E0.out ?_
                rotate_left
                · (intro w1 hS; go_simp; try with_reducible rfl)
                simp only [Act.put, tS1, tS2, tS3]
                refine tkA 2 (?_) ?_ E0.out ?_
                rotate_left
                · (intro w1 hS; go_simp; try with_reducible rfl)
                simp only [Act.put, tS1, tS2, tS3]
                refine tkA 3 (?_) ?_ E0.out ?_
                rotate_left
                · (intro w1 hS; go_simp; try with_reducible rfl)
                simp only [Act.put, tS1, tS2, tS3]
                refine tkA 4 (?_) ?_ E0.out ?_
                rotate_left
                · (intro w1 hS; go_simp; try with_reducible rfl)
                simp only [Act.put, tS1, tS2, tS3]
                refine tkN 5 E0.out ?_
                simp only [Act.put, tS1, tS2, tS3]
                refine tkN 6 E0.out ?_
                simp only [Act.put, tS1, tS2, tS3]
                refine tkN 7 E0.out ?_
                simp only [Act.put, tS1, tS2, tS3]
                refine tkN 8 E0.out ?_
                simp only [Act.put, tS1, tS2, tS3]
                refine tkN 9 E0.out ?_
                simp only [Act.put, tS1, tS2, tS3]
                refine tkN 10 E0.out ?_
                simp only [Act.put, tS1, tS2, tS3]
                refine tkN 11 E0.out ?_
                simp only [Act.put, tS1, tS2, tS3]
                refine tkN 12 E0.out ?_
                simp only [Act.put, tS1, tS2, tS3]
                refine tkN 13 E0.out ?_
                simp only [Act.put, tS1, tS2, tS3]
                refine tkA 14 (?_) ?_ E0.out ?_
                rotate_left
                · (intro w1 hS; go_simp; try with_reducible rfl)
                simp only [Act.put, tS1, tS2, tS3]
                refine tkA 15 (?_) ?_ E0.out ?_
                rotate_left
                · (intro w1 hS; go_simp; try with_reducible rfl)
                simp only [Act.put, tS1, tS2, tS3]
                refine wpAnyH_done (by kernel_rfl) ?_ _
                have hy := E0.out
                replace Ar := Lib.hid (row_under Ar.out hy)
                replace KBr := Lib.hid (KBr.out.trans (hy.mono KBr.out.size))
                replace Kq := Lib.hid (Kq.out.trans (hy.mono Kq.out.size))
                clear hy E0
                have c0 := HCq.out _ KBr.out
                have hal := (Below.refl Y29x0.heap.size Y29x0).alloc (Nat.le_refl _) (.cells #[.int .i64 (qy : Int)] 3)
                replace Ar := Lib.hid (row_under Ar.out hal)
                replace KBr := Lib.hid (KBr.out.trans (hal.mono KBr.out.size))
                replace Kq := Lib.hid (Kq.out.trans (hal.mono Kq.out.size))
                have LT := Lib.hid (show Rd (Y29x0.alloc (.cells #[.int .i64 (qy : Int)] 3)) (.slice (some ⟨Y29x0.heap.size, 0, none⟩) 1 1) (nus .i64 [qy]) from rd_lit Y29x0 .i64 3 [qy] 1 (0, 0) rfl (by decide))
                go_wp2_with (at_builtin; refine wpListI_app rfl (.tmp 212) (.tmp 217) rfl V68.heap.size _ _ (bitsL Z t) rfl Ar.out (some ⟨Y29x0.heap.size, 0, none⟩) 1 1 [qy] rfl LT.out (by intro e; cases e) ?apa5 ?apb5 ?apc5)
                case apa5 => exact HZL.out
                case apb5 => exact KBr.out.size
                intro vx V601 oz gz
                replace KBr := Lib.hid (KBr.out.grown gz KBr.out.size (fun k e => (Ar.out.lt k e).1))
                replace Kq := Lib.hid (Kq.out.grown gz Kq.out.size (fun k e => Nat.le_trans hV0 (Ar.out.lt k e).1))
                replace Ar := Lib.hid oz
                clear oz gz hal LT c0
                go_wp2
                go_roundw
                case rel => exact ⟨qy + 1, _, LE.out, by rw [LX.out] <;> go_num, by rw [LY.out] <;> go_num, rfl, by rw [LZ.out, List.length_append]; exact Ar, KBr, Kq⟩
                case measure => simp [RowKit.intOf]; omega
              · obtain rfl : r = nq := by omega
                have m2a : decide ((r : Int) < (r : Int)) = false := decide_eq_false (by omega)
                have m2b : decide (r < r) = false := decide_eq_false (by omega)
                have HZE := Lib.hid (merge_end HBO.out ht (by rw [← HS.out, ← HNP.out]) (by rw [← HR.out, ← HNQ.out]))
                rw [HZE.out] at Ar
                have CT := Lib.hid (fun va vb W h1 h2 => ints_any va vb (bitsL Z N) W h1 h2 (by have := hZ2.out; omega))
                go_wp2_with fail
                refine (CT.out _ _ wr (Rd.own Ar.out) (RRV.out.below KBr.out)).mono ?_
                rintro e V701 ⟨rfl, hy⟩
                replace Ar := Lib.hid (row_under Ar.out hy)
                replace KBr := Lib.hid (KBr.out.trans (hy.mono KBr.out.size))
                replace Kq := Lib.hid (Kq.out.trans (hy.mono Kq.out.size))
                clear hy
                go_wp2_with fail
                refine (AW.out V701 (EN.out.below Kq.out qE)).mono ?_
                rintro e V702 ⟨rfl, hy⟩
                replace Ar := Lib.hid (row_under Ar.out hy)
                replace KBr := Lib.hid (KBr.out.trans (hy.mono KBr.out.size))
                replace Kq := Lib.hid (Kq.out.trans (hy.mono Kq.out.size))
                clear hy
                go_wp2
                go_ret
                exact ⟨rfl, Kq.out⟩
    · obtain ⟨s, rfl⟩ : ∃ s, r = s + 1 := ⟨r - 1, by omega⟩
      clear hr0
      rw [show ((s + 1 : Nat) : Int) - 1 = (s : Int) from by omega]
      have d8 : decide ((s : Int) ≥ 0) = true := decide_eq_true (by omega)
      obtain ⟨q, hqs⟩ : ∃ q, q = ln2 - 1 - s := ⟨_, rfl⟩
      have hb2 : 0 ≤ (s : Int) ∧ (s : Int) < (ln2 : Int) := by omega
      have hb3 : 0 ≤ (q : Int) ∧ (q : Int) < (ln2 : Int) := by omega
      obtain ⟨bb, off, e, _⟩ := RdI.cells VI2.out (by have := HLN2.out; omega)
      subst e
      have HCE := Lib.hid (fun k (hk : k < ln2) W (h : Below w.heap.size w W) => by obtain ⟨b', o', e', hc⟩ := RdI.cells (VI2.out.below h) (by have := HLN2.out; omega); cases e'; exact hc k (by have := HLN2.out; omega))
      have HXs := Lib.hid (HX1.out s (by omega))
      have HZs := Lib.hid (HZ1.out s (by omega))
      have HCs := Lib.hid (HCE.out s (by omega))
      have HCq := Lib.hid (HCE.out q (by omega))
      rw [← hqs] at HZs
      generalize zs2.getD s 0 = x at *
      generalize zs2.getD q 0 = y at *
      have CIx := Lib.hid (fun W h => CI.out x gf gFx gWx Lx (MX (s + 1)) W h)
      have CIz := Lib.hid (fun W h => CI.out y gf gFz gWz Lz (MZ (s + 1)) W h)
      rw [← HXs.out] at CIx
      rw [← HZs.out] at CIz
      have w6 : IntKind.i64.wrap ((s : Int) - 1) = (s : Int) - 1 := by rw [IntKind.wrap_i64]; omega
      have w7 : IntKind.i64.wrap ((ln2 : Int) - 1) = (ln2 : Int) - 1 := by rw [IntKind.wrap_i64]; omega
      have w8 : IntKind.i64.wrap ((ln2 : Int) - 1 - (s : Int)) = (q : Int) := by rw [IntKind.wrap_i64]; omega
      clear hqs
      have c0 := HCs.out _ Kr.out
      go_wp2_with fail
      clear c0
      refine (CK.out x wr).mono ?_
      rintro e V7 ⟨rfl, hy⟩
      replace Sxr := Lib.hid (Sxr.out.below hy)
      replace Syr := Lib.hid (Syr.out.below hy)
      replace Szr := Lib.hid (Szr.out.below hy)
      replace Kr := Lib.hid (Kr.out.trans (hy.mono Kr.out.size))
      clear hy
      go_wp2_with fail
      refine (CIx.out V7 Sxr.out).mono ?_
      rintro e V8 ⟨rfl, hs2, gr⟩
      obtain ⟨dxFy, dxWy, dxFz, dxWz, dyFx, dyWx, dyFz, dyWz, dzFx, dzWx, dzFy, dzWy⟩ := ND.out
      replace Kr := Lib.hid (Kr.out.grown gr Kr.out.size (fun k e => by cases e; exact hwx))
      replace Syr := Lib.hid (Syr.out.grown gr Sxr.out.d2 dxFy dxWy Sxr.out.d3)
      replace Szr := Lib.hid (Szr.out.grown gr Sxr.out.d2 dxFz dxWz Sxr.out.d3)
      replace Sxr := Lib.hid hs2
      clear hs2 gr dxFy dxWy dxFz dxWz dyFx dyWx dyFz dyWz dzFx dzWx dzFy dzWy
      have c0 := HCq.out _ Kr.out
      go_wp2_with fail
      clear c0
      refine (CK.out y V8).mono ?_
      rintro e V9 ⟨rfl, hy⟩
      replace Sxr := Lib.hid (Sxr.out.below hy)
      replace Syr := Lib.hid (Syr.out.below hy)
      replace Szr := Lib.hid (Szr.out.below hy)
      replace Kr := Lib.hid (Kr.out.trans (hy.mono Kr.out.size))
      clear hy
      go_wp2_with fail
      refine (CIz.out V9 Szr.out).mono ?_
      rintro e V10 ⟨rfl, hs2, gr⟩
      obtain ⟨dxFy, dxWy, dxFz, dxWz, dyFx, dyWx, dyFz, dyWz, dzFx, dzWx, dzFy, dzWy⟩ := ND.out
      replace Kr := Lib.hid (Kr.out.grown gr Kr.out.size (fun k e => by cases e; exact hwz))
      replace Sxr := Lib.hid (Sxr.out.grown gr Szr.out.d2 dzFx dzWx Szr.out.d3)
      replace Syr := Lib.hid (Syr.out.grown gr Szr.out.d2 dzFy dzWy Szr.out.d3)
      replace Szr := Lib.hid hs2
      clear hs2 gr dxFy dxWy dxFz dxWz dyFx dyWx dyFz dyWz dzFx dzWx dzFy dzWy
      go_wp2
      go_roundw
      case rel => exact ⟨s, by omega, rfl, Sxr, Syr, Szr, Kr⟩
      case measure => simp [RowKit.intOf]
end Go.Proofs.YtcgaibkpdihncaaDoor
