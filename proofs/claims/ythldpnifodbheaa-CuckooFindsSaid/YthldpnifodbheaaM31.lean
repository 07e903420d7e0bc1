/- Texts that the walks of this seat lean on, put together. -/
import Derived.Deep.CutBlock
import Derived.Deep.DeepCutAuto
import Derived.LoopTactic
import Derived.Handy
import Derived.Laws.CopyOwn
import Derived.BigQuiet
import Derived.Deep.QuietTactic
import Derived.Shelf.Abstract
import Derived.Shelf.RegionOpen
import Derived.LoopIn
import Derived.BigFrame
import Derived.RangeFuncBound
import Derived.RangeFuncBox
import Derived.RangeFuncCalls
import Derived.RangeFuncLeaves
import Derived.RangeFuncNested
import Derived.RangeFuncRecord
import Derived.Test.YthldpnifodbheaaTk
import Derived.Test.YthldpnifodbheaaTl
import Derived.Test.YthldpnifodbheaaM18
import Derived.Test.YthldpnifodbheaaM23
import Derived.Test.YthldpnifodbheaaM24
import Derived.Test.YthldpnifodbheaaM27
import Derived.Test.YthldpnifodbheaaM30
namespace Go.Proofs.Ythldpnifodbheaa
open Go.RowKit Go.Lib
def tbC (F B : Nat) (ev : Int) : Array Value := #[.pointer (some ⟨F, 0, none⟩), .pointer (some ⟨B + 1, 0, none⟩), .int .i64 ev]
structure TS (tn fn B : Nat) (cf : Cf) (c : Nat → Option Se) (W : World) : Prop where
  T : Blk W tn 80 (tbC fn B cf.ev)
  F : Blk W fn 110 (famC cf)
  G : GdT B cf.st.toNat cf.sz.toNat c W
  hF : fn < B
  hT : B + 2 + cf.st.toNat ≤ tn
section
variable {tn fn B : Nat} {cf : Cf} {c : Nat → Option Se} {W W' : World}
theorem TS.lt (h : TS tn fn B cf c W) : tn < W.heap.size := h.T.lt
theorem TS.belowB {b : Nat} (h : TS tn fn B cf c W) (hb : Below b W W') (hl : tn < b) : TS tn fn B cf c W' :=
  ⟨h.T.below hb hl, h.F.below hb (by have := h.hF; have := h.hT; omega), h.G.belowB hb (by have := h.hT; omega), h.hF, h.hT⟩
theorem TS.below (h : TS tn fn B cf c W) (hb : Below W.heap.size W W') : TS tn fn B cf c W' := h.belowB hb h.lt
theorem TS.kept (h : TS tn fn B cf c W) (hk : ∀ k, k ≤ tn → W'.heap[k]? = W.heap[k]?) : TS tn fn B cf c W' :=
  ⟨(hk _ (Nat.le_refl _)).trans h.T, (hk _ (by have := h.hF; have := h.hT; omega)).trans h.F, h.G.kept fun k _ h2 => hk k (by have := h.hT; omega), h.hF, h.hT⟩
theorem TS.put {c' : Nat → Option Se} (h : TS tn fn B cf c W) (hg : GdT B cf.st.toNat cf.sz.toNat c' W') (ha : Apart B (2 + cf.st.toNat) W W') : TS tn fn B cf c' W' :=
  ⟨ha.blk h.T (by have := h.hT; omega), ha.blk h.F (by have := h.hF; omega), hg, h.hF, h.hT⟩
end
theorem tbC_get (F B : Nat) (ev : Int) : (tbC F B ev)[0]? = some (.pointer (some ⟨F, 0, none⟩)) ∧ (tbC F B ev)[1]? = some (.pointer (some ⟨B + 1, 0, none⟩)) ∧ (tbC F B ev)[2]? = some (.int .i64 ev) := ⟨rfl, rfl, rfl⟩
def hitsB (s : Se) (d : Nat) (v : Int) : Bool := decide (s.d = d) && decide (s.v = v)
theorem Se.ib (s : Se) : Hid ((Try.prog.info? 84).map (·.size) = some s.cs.size) := by show _ = _; rw [s.size]; exact i84
set_option maxRecDepth 100000 in
set_option maxHeartbeats 4000000 in
theorem hits_any (s : Se) (d : Nat) (v : Int) (w : World) :
    Calls Try.prog 35 #[.agg s.cs, .int .u16 (d : Int), .int .i64 v] w fun e w' => e = .returned (.bool (hitsB s d v)) ∧ Below w.heap.size w w' := by
  have K := lh (Below.refl w.heap.size w)
  obtain ⟨-, g1, g2, -⟩ := seC_get s.k s.fit true s.d s.v s.r
  have G1 := lh g1
  have G2 := lh g2
  have XI := s.ib
  unfold hitsB
  obtain ⟨xc, hxc⟩ : ∃ x, x = s.cs := ⟨_, rfl⟩
  change Hid (s.cs[38]? = _) at G1
  change Hid (s.cs[39]? = _) at G2
  rw [← hxc] at G1 G2 XI ⊢
  generalize s.d = sd at *
  generalize s.v = sv at *
  clear g1 g2 hxc
  by_cases h1 : sd = d
  · by_cases h2 : sv = v
    · skip
      have q1 : (((sd : Nat) : Int) == ((d : Nat) : Int)) = true := beq_iff_eq.mpr (by omega)
      have q1b : (sd == d) = true := by simpa using h1
      rw [show decide (sd = d) = true from decide_eq_true h1]
      have q2 : (sv == v) = true := by simpa using h2
      rw [show decide (sv = v) = true from decide_eq_true h2]
      clear h1 h2
      go_enter Try.func35, Try.ntmps35
      have hal := (Below.refl w.heap.size w).alloc (Nat.le_refl _) (.cells xc 84)
      replace K := lh (K.out.trans (hal.mono K.out.size))
      have X := lh (Blk.new w 84 xc)
      clear hal
      have L1 := (X.out.cell 38).trans G1.out
      have L2 := (X.out.cell 39).trans G2.out
      go_wp2
      go_ret
      exact ⟨rfl, K.out⟩
    · skip
      have q1 : (((sd : Nat) : Int) == ((d : Nat) : Int)) = true := beq_iff_eq.mpr (by omega)
      have q1b : (sd == d) = true := by simpa using h1
      rw [show decide (sd = d) = true from decide_eq_true h1]
      have q2 : (sv == v) = false := by simpa using h2
      rw [show decide (sv = v) = false from decide_eq_false h2]
      clear h1 h2
      go_enter Try.func35, Try.ntmps35
      have hal := (Below.refl w.heap.size w).alloc (Nat.le_refl _) (.cells xc 84)
      replace K := lh (K.out.trans (hal.mono K.out.size))
      have X := lh (Blk.new w 84 xc)
      clear hal
      have L3 := (X.out.cell 38).trans G1.out
      have L4 := (X.out.cell 39).trans G2.out
      go_wp2
      go_ret
      exact ⟨rfl, K.out⟩
  · skip
    have q1 : (((sd : Nat) : Int) == ((d : Nat) : Int)) = false := beq_eq_false_iff_ne.mpr (by omega)
    have q1b : (sd == d) = false := by simpa using h1
    rw [show decide (sd = d) = false from decide_eq_false h1]
    clear h1
    go_enter Try.func35, Try.ntmps35
    have hal := (Below.refl w.heap.size w).alloc (Nat.le_refl _) (.cells xc 84)
    replace K := lh (K.out.trans (hal.mono K.out.size))
    have X := lh (Blk.new w 84 xc)
    clear hal
    have L5 := (X.out.cell 38).trans G1.out
    go_wp2
    go_ret
    exact ⟨rfl, K.out⟩
set_option maxRecDepth 100000 in
set_option maxHeartbeats 4000000 in
theorem lookF_any (s : Se) (d : Nat) (v : Int) (pd pv : Nat) (w : World) (hd : Boxed w pd 40 (.int .u16 (d : Int))) (hv : Boxed w pv 3 (.int .i64 v)) :
    Calls Try.prog 34 #[.agg s.cs, .pointer (some ⟨pd, 0, none⟩), .pointer (some ⟨pv, 0, none⟩)] w fun e w' => e = .returned (.bool (hitsB s d v)) ∧ Below w.heap.size w w' := by
  have K := lh (Below.refl w.heap.size w)
  have CH := lh (fun W => hits_any s d v W)
  have XI := s.ib
  have D := lh (show Blk w pd 40 #[.int .u16 (d : Int)] from hd)
  have V := lh (show Blk w pv 3 #[.int .i64 v] from hv)
  generalize s.cs = xc at *
  generalize hitsB s d v = q at *
  clear hd hv
  go_enter Try.func34, Try.ntmps34
  have hal := (Below.refl w.heap.size w).alloc (Nat.le_refl _) (.cells xc 84)
  replace K := lh (K.out.trans (hal.mono K.out.size))
  replace D := lh (D.out.below hal D.out.lt)
  replace V := lh (V.out.below hal V.out.lt)
  have X := lh (Blk.new w 84 xc)
  clear hal
  have l6 := D.out.cell 0
  have l7 := V.out.cell 0
  have L6 : (loadVar 84 ⟨w.heap.size, 0, none⟩).run Try.prog (w.alloc (.cells xc 84)) = .ok (.agg xc) (w.alloc (.cells xc 84)) := run_blk_load (P := Try.prog) 84 (w.heap.size) _ X.out Try.underlying84 rfl XI.out
  replace L6 := lh L6
  go_wp2_with (((with_reducible refine wpList_load_want (op := ⟨some 5, .load 84 (.tmp 3), _, _, _, _⟩) ?wg6 84 (.tmp 3) ?wo6 ⟨w.heap.size, 0, none⟩ ?wx6 (.agg xc) L6.out ?_); (case wg6 => rfl); (case wo6 => rfl); (case wx6 => rfl)))
  clear L6
  have hzV1 : Hid ((w.alloc (.cells xc 84)).heap.size = w.heap.size + 1) := by show _ = _; simp only [World.size_alloc]
  generalize (w.alloc (.cells xc 84)) = V1 at *
  refine (CH.out V1).mono ?_
  rintro e V2 ⟨rfl, hy⟩
  replace K := lh (K.out.trans (hy.mono K.out.size))
  replace D := lh (D.out.below hy D.out.lt)
  replace V := lh (V.out.below hy V.out.lt)
  replace X := lh (X.out.below hy X.out.lt)
  clear hy
  go_wp2
  go_ret
  exact ⟨rfl, K.out⟩
set_option maxRecDepth 100000 in
set_option maxHeartbeats 4000000 in
theorem findF_any (s : Se) (k : Fl) (hk : k.Fit) (pk : Nat) (w : World) (hb : Blk w pk 42 k.cs) :
    Calls Try.prog 44 #[.agg s.cs, .pointer (some ⟨pk, 0, none⟩)] w fun e w' => e = .returned (.bool (decide (s.k = k))) ∧ Below w.heap.size w w' := by
  have K := lh (Below.refl w.heap.size w)
  have EQ : Hid (∀ W, (Op.equalIn 10000 42 (.agg s.k.cs) (.agg k.cs)).run Try.prog W = .ok (decide (s.k = k)) W) := by
    intro W
    by_cases h : s.k = k
    · rw [decide_eq_true h, h]; exact eq_fl_yes k hk W
    · rw [decide_eq_false h]; exact eq_fl_no s.k k s.fit hk h W
  have XI := s.ib
  have KP := lh (seC_key s.k true s.d s.v s.r)
  change Hid ((s.cs.toList.drop 0).take s.k.cs.toList.length = _) at KP
  have KI := lh (fl_ik k hk)
  have KS : Hid ((Try.prog.info? 42).map (·.size) = some s.k.cs.toList.length) := by show _ = _; rw [Array.length_toList]; exact fl_ik s.k s.fit
  have P := lh hb
  generalize s.cs = xc at *
  generalize s.k.cs = sk at *
  generalize k.cs = kc at *
  generalize decide (s.k = k) = q at *
  clear hb
  go_enter Try.func44, Try.ntmps44
  have hal := (Below.refl w.heap.size w).alloc (Nat.le_refl _) (.cells xc 84)
  replace K := lh (K.out.trans (hal.mono K.out.size))
  replace P := lh (P.out.below hal P.out.lt)
  have X := lh (Blk.new w 84 xc)
  clear hal
  have hqe := EQ.out
  have L7 : (loadVar 42 ⟨w.heap.size, 0, none⟩).run Try.prog (w.alloc (.cells xc 84)) = .ok (.agg sk) (w.alloc (.cells xc 84)) := by have h := run_part_load (P := Try.prog) 42 0 sk.toList _ X.out KP.out Try.underlying42 rfl KS.out; rwa [Array.toArray_toList] at h
  replace L7 := lh L7
  have L8 : (loadVar 42 ⟨pk, 0, none⟩).run Try.prog (w.alloc (.cells xc 84)) = .ok (.agg kc) (w.alloc (.cells xc 84)) := run_blk_load (P := Try.prog) 42 (pk) _ P.out Try.underlying42 rfl KI.out
  replace L8 := lh L8
  go_wp2_with (first | ((with_reducible refine wpList_load_want (op := ⟨some 5, .load 42 (.tmp 4), _, _, _, _⟩) ?wg7 42 (.tmp 4) ?wo7 ⟨w.heap.size, 0, none⟩ ?wx7 (.agg sk) L7.out ?_); (case wg7 => rfl); (case wo7 => rfl); (case wx7 => rfl)) | ((with_reducible refine wpList_load_want (op := ⟨some 6, .load 42 (.tmp 1), _, _, _, _⟩) ?wg8 42 (.tmp 1) ?wo8 ⟨pk, 0, none⟩ ?wx8 (.agg kc) L8.out ?_); (case wg8 => rfl); (case wo8 => rfl); (case wx8 => rfl)))
  clear L7 L8
  go_ret
  exact ⟨rfl, K.out⟩
end Go.Proofs.Ythldpnifodbheaa
namespace Go.Proofs.Ythldpnifodbheaa
open Go.RowKit Go.Shelf
attribute [local go_sem] Oper.semAt_some
theorem zero46 (W : World) : (zeroValue 46).run Try.prog W = .ok (.agg zCe) W := by kernel_rfl
theorem i46c : (Try.prog.info? 46).map (·.size) = some 4 := by kernel_rfl
theorem i51c : (Try.prog.info? 51).map (·.size) = some 2 := by kernel_rfl
theorem zz46 : Hid (zCe.size = zCe.size) := rfl
theorem bl46 : Try.prog.built 46 [] = some zCe := by kernel_rfl
theorem bl51 : Try.prog.built 51 [] = some #[.int .i64 0, .int .i64 0] := by kernel_rfl
theorem pcP_all (x : Pl) : (pcP x).all (·.oneCell') = true := by unfold pcP; rw [← Array.all_toList]; rfl
theorem zz51 : Hid ((#[Value.int .i64 0, .int .i64 0] : Array Value).size = (#[Value.int .i64 0, .int .i64 0] : Array Value).size) := rfl
theorem load4 {w : World} {b : Nat} {x : Bool} (h : Blk w b 4 #[.bool x]) : (loadVar 4 ⟨b, 0, none⟩).run Try.prog w = .ok (.bool x) w := by
  have c0 : w.cell? ⟨b, 0, none⟩ = some (.bool x) := h.cell 0
  go_simp
set_option maxRecDepth 100000 in
set_option maxHeartbeats 4000000 in
theorem firstL_any (tn fn B : Nat) (cf : Cf) (c : Nat → Option Se) (hc : cf.Fit) (hok : okC cf = true) (k : Fl) (hk : k.Fit) (d : Nat) (v : Int) (pd pv : Nat) (w : World) (h : TS tn fn B cf c w) (hd : Boxed w pd 40 (.int .u16 (d : Int))) (hv : Boxed w pv 3 (.int .i64 v)) :
    Calls Try.prog 33 #[.pointer (some ⟨tn, 0, none⟩), .agg k.cs, .func (.func 34) #[] #[.pointer (some ⟨pd, 0, none⟩), .pointer (some ⟨pv, 0, none⟩)]] w fun e w' => e = .returned (.tuple #[.agg (rP (fst1 (lkN cf.st.toNat cf.sz.toNat c) (fun s => hitsB s d v) (plL cf k))), .agg (rC (fst1 (lkN cf.st.toNat cf.sz.toNat c) (fun s => hitsB s d v) (plL cf k))), .bool (fst1 (lkN cf.st.toNat cf.sz.toNat c) (fun s => hitsB s d v) (plL cf k)).isSome]) ∧ Below w.heap.size w w' := by
  have hl4 := plL_le cf k hok
  have hi42 := fl_ik k hk
  have CP := lh (fun s W (h : Blk W fn 110 (famC cf)) => place_any cf hc hok k hk fn s W h)
  have CG : Hid (∀ (x : Pl) (W : World), GdT B cf.st.toNat cf.sz.toNat c W → Calls Try.prog 36 #[.pointer (some ⟨B + 1, 0, none⟩), .agg (pcP x)] W fun e w' => e = .returned (.tuple #[.agg (oC (lkN cf.st.toNat cf.sz.toNat c x)), .bool (lkN cf.st.toNat cf.sz.toNat c x).isSome]) ∧ Below W.heap.size W w') := fun x W h => getT_any B cf.st.toNat cf.sz.toNat c (x.1 : Int) (x.2 : Int) W h
  have CQ := lh (fun s W (h1 : Blk W pd 40 #[.int .u16 (d : Int)]) (h2 : Blk W pv 3 #[.int .i64 v]) => lookF_any s d v pd pv W h1 h2)
  have CPL := lh (fun W => places_any (some ⟨fn, 0, none⟩) k.cs W)
  have hql := eql_fnP
  obtain ⟨qf, hqf⟩ : ∃ q : Se → Bool, q = (fun s => hitsB s d v) := ⟨_, rfl⟩
  have hqf2 : ∀ s : Se, hitsB s d v = qf s := fun s => by rw [hqf]
  simp only [hqf2] at CQ
  rw [← hqf]
  clear hqf hqf2
  obtain ⟨f, hf⟩ : ∃ f, f = lkN cf.st.toNat cf.sz.toNat c := ⟨_, rfl⟩
  rw [← hf] at CG ⊢
  clear hf
  obtain ⟨L, hL⟩ : ∃ L, L = plL cf k := ⟨_, rfl⟩
  rw [← hL] at hl4 CP ⊢
  clear hL
  obtain ⟨T0', T1', -⟩ := tbC_get fn B cf.ev
  have T0 := lh T0'
  have T1 := lh T1'
  have TB := lh h.T
  have HT := lh h
  have htw := h.lt
  have hft : fn < tn := by have := h.hF; have := h.hT; omega
  have FD := lh (show Blk w pd 40 #[.int .u16 (d : Int)] from hd)
  have FV := lh (show Blk w pv 3 #[.int .i64 v] from hv)
  obtain ⟨kc, hkc⟩ : ∃ x, x = k.cs := ⟨_, rfl⟩
  rw [← hkc] at CP CPL hi42 ⊢
  have IK := lh hi42
  obtain ⟨tc, htc⟩ : ∃ x, x = tbC fn B cf.ev := ⟨_, rfl⟩
  rw [← htc] at T0 T1 TB
  have FB := lh h.F
  clear T0' T1' h hkc hk htc hd hv
  obtain ⟨fc, hfc⟩ : ∃ x, x = famC cf := ⟨_, rfl⟩
  rw [← hfc] at FB CP
  clear hfc
  have K := lh (Below.refl w.heap.size w)
  have hz46 := zero46
  refine (callsIn_wide (n := 3)).1 ?_
  refine callsIn_of_wp_marks Try.func33 rfl trivial ?_ rfl
  refine wpIn_wide.2 ?_
  simp only [Try.ntmps33, List.size_toArray, List.length_cons, List.length_nil, Nat.reduceAdd, Nat.reduceSub, Array.replicate_succ, Array.replicate_zero, List.push_toArray, List.append_toArray, List.nil_append, List.cons_append]
  have hal := (Below.refl w.heap.size w).alloc (Nat.le_refl _) (.cells #[.pointer (some ⟨tn, 0, none⟩)] 31)
  replace K := lh (K.out.trans (hal.mono K.out.size))
  replace HT := lh (HT.out.below hal)
  replace TB := lh (TB.out.below hal TB.out.lt)
  replace FB := lh (FB.out.below hal FB.out.lt)
  replace FD := lh (FD.out.below hal FD.out.lt)
  replace FV := lh (FV.out.below hal FV.out.lt)
  have BT := lh (Blk.new w 31 #[.pointer (some ⟨tn, 0, none⟩)])
  clear hal
  have hal := (Below.refl (w.alloc (.cells #[.pointer (some ⟨tn, 0, none⟩)] 31)).heap.size (w.alloc (.cells #[.pointer (some ⟨tn, 0, none⟩)] 31))).alloc (Nat.le_refl _) (.cells kc 42)
  replace K := lh (K.out.trans (hal.mono K.out.size))
  replace HT := lh (HT.out.below hal)
  replace TB := lh (TB.out.below hal TB.out.lt)
  replace FB := lh (FB.out.below hal FB.out.lt)
  replace FD := lh (FD.out.below hal FD.out.lt)
  replace FV := lh (FV.out.below hal FV.out.lt)
  replace BT := lh (BT.out.below hal BT.out.lt)
  have BKq := Blk.new (w.alloc (.cells #[.pointer (some ⟨tn, 0, none⟩)] 31)) 42 kc
  simp only [World.size_alloc] at BKq
  have BK := lh BKq
  clear BKq
  clear hal
  have hal := (Below.refl ((w.alloc (.cells #[.pointer (some ⟨tn, 0, none⟩)] 31)).alloc (.cells kc 42)).heap.size ((w.alloc (.cells #[.pointer (some ⟨tn, 0, none⟩)] 31)).alloc (.cells kc 42))).alloc (Nat.le_refl _) (.cells #[.func (.func 34) #[] #[.pointer (some ⟨pd, 0, none⟩), .pointer (some ⟨pv, 0, none⟩)]] 89)
  replace K := lh (K.out.trans (hal.mono K.out.size))
  replace HT := lh (HT.out.below hal)
  replace TB := lh (TB.out.below hal TB.out.lt)
  replace FB := lh (FB.out.below hal FB.out.lt)
  replace FD := lh (FD.out.below hal FD.out.lt)
  replace FV := lh (FV.out.below hal FV.out.lt)
  replace BT := lh (BT.out.below hal BT.out.lt)
  replace BK := lh (BK.out.below hal BK.out.lt)
  have BFq := Blk.new ((w.alloc (.cells #[.pointer (some ⟨tn, 0, none⟩)] 31)).alloc (.cells kc 42)) 89 #[.func (.func 34) #[] #[.pointer (some ⟨pd, 0, none⟩), .pointer (some ⟨pv, 0, none⟩)]]
  simp only [World.size_alloc] at BFq
  have BF := lh BFq
  clear BFq
  clear hal
  have hal := (Below.refl (((w.alloc (.cells #[.pointer (some ⟨tn, 0, none⟩)] 31)).alloc (.cells kc 42)).alloc (.cells #[.func (.func 34) #[] #[.pointer (some ⟨pd, 0, none⟩), .pointer (some ⟨pv, 0, none⟩)]] 89)).heap.size (((w.alloc (.cells #[.pointer (some ⟨tn, 0, none⟩)] 31)).alloc (.cells kc 42)).alloc (.cells #[.func (.func 34) #[] #[.pointer (some ⟨pd, 0, none⟩), .pointer (some ⟨pv, 0, none⟩)]] 89))).alloc (Nat.le_refl _) (.cells #[.int .i64 0, .int .i64 0] 51)
  replace K := lh (K.out.trans (hal.mono K.out.size))
  replace HT := lh (HT.out.below hal)
  replace TB := lh (TB.out.below hal TB.out.lt)
  replace FB := lh (FB.out.below hal FB.out.lt)
  replace FD := lh (FD.out.below hal FD.out.lt)
  replace FV := lh (FV.out.below hal FV.out.lt)
  replace BT := lh (BT.out.below hal BT.out.lt)
  replace BK := lh (BK.out.below hal BK.out.lt)
  replace BF := lh (BF.out.below hal BF.out.lt)
  have RPq := Blk.new (((w.alloc (.cells #[.pointer (some ⟨tn, 0, none⟩)] 31)).alloc (.cells kc 42)).alloc (.cells #[.func (.func 34) #[] #[.pointer (some ⟨pd, 0, none⟩), .pointer (some ⟨pv, 0, none⟩)]] 89)) 51 #[.int .i64 0, .int .i64 0]
  simp only [World.size_alloc] at RPq
  have RP := lh RPq
  clear RPq
  clear hal
  have hal := (Below.refl ((((w.alloc (.cells #[.pointer (some ⟨tn, 0, none⟩)] 31)).alloc (.cells kc 42)).alloc (.cells #[.func (.func 34) #[] #[.pointer (some ⟨pd, 0, none⟩), .pointer (some ⟨pv, 0, none⟩)]] 89)).alloc (.cells #[.int .i64 0, .int .i64 0] 51)).heap.size ((((w.alloc (.cells #[.pointer (some ⟨tn, 0, none⟩)] 31)).alloc (.cells kc 42)).alloc (.cells #[.func (.func 34) #[] #[.pointer (some ⟨pd, 0, none⟩), .pointer (some ⟨pv, 0, none⟩)]] 89)).alloc (.cells #[.int .i64 0, .int .i64 0] 51))).alloc (Nat.le_refl _) (.cells zCe 46)
  replace K := lh (K.out.trans (hal.mono K.out.size))
  replace HT := lh (HT.out.below hal)
  replace TB := lh (TB.out.below hal TB.out.lt)
  replace FB := lh (FB.out.below hal FB.out.lt)
  replace FD := lh (FD.out.below hal FD.out.lt)
  replace FV := lh (FV.out.below hal FV.out.lt)
  replace BT := lh (BT.out.below hal BT.out.lt)
  replace BK := lh (BK.out.below hal BK.out.lt)
  replace BF := lh (BF.out.below hal BF.out.lt)
  replace RP := lh (RP.out.below hal RP.out.lt)
  have RCq := Blk.new ((((w.alloc (.cells #[.pointer (some ⟨tn, 0, none⟩)] 31)).alloc (.cells kc 42)).alloc (.cells #[.func (.func 34) #[] #[.pointer (some ⟨pd, 0, none⟩), .pointer (some ⟨pv, 0, none⟩)]] 89)).alloc (.cells #[.int .i64 0, .int .i64 0] 51)) 46 zCe
  simp only [World.size_alloc] at RCq
  have RC := lh RCq
  clear RCq
  clear hal
  have hal := (Below.refl (((((w.alloc (.cells #[.pointer (some ⟨tn, 0, none⟩)] 31)).alloc (.cells kc 42)).alloc (.cells #[.func (.func 34) #[] #[.pointer (some ⟨pd, 0, none⟩), .pointer (some ⟨pv, 0, none⟩)]] 89)).alloc (.cells #[.int .i64 0, .int .i64 0] 51)).alloc (.cells zCe 46)).heap.size (((((w.alloc (.cells #[.pointer (some ⟨tn, 0, none⟩)] 31)).alloc (.cells kc 42)).alloc (.cells #[.func (.func 34) #[] #[.pointer (some ⟨pd, 0, none⟩), .pointer (some ⟨pv, 0, none⟩)]] 89)).alloc (.cells #[.int .i64 0, .int .i64 0] 51)).alloc (.cells zCe 46))).alloc (Nat.le_refl _) (.cells #[.bool false] 4)
  replace K := lh (K.out.trans (hal.mono K.out.size))
  replace HT := lh (HT.out.below hal)
  replace TB := lh (TB.out.below hal TB.out.lt)
  replace FB := lh (FB.out.below hal FB.out.lt)
  replace FD := lh (FD.out.below hal FD.out.lt)
  replace FV := lh (FV.out.below hal FV.out.lt)
  replace BT := lh (BT.out.below hal BT.out.lt)
  replace BK := lh (BK.out.below hal BK.out.lt)
  replace BF := lh (BF.out.below hal BF.out.lt)
  replace RP := lh (RP.out.below hal RP.out.lt)
  replace RC := lh (RC.out.below hal RC.out.lt)
  have RBq := Blk.new (((((w.alloc (.cells #[.pointer (some ⟨tn, 0, none⟩)] 31)).alloc (.cells kc 42)).alloc (.cells #[.func (.func 34) #[] #[.pointer (some ⟨pd, 0, none⟩), .pointer (some ⟨pv, 0, none⟩)]] 89)).alloc (.cells #[.int .i64 0, .int .i64 0] 51)).alloc (.cells zCe 46)) 4 #[.bool false]
  simp only [World.size_alloc] at RBq
  have RB := lh RBq
  clear RBq
  clear hal
  go_upto_region 1 with fail
  have hzV1 : Hid (((((((w.alloc (.cells #[.pointer (some ⟨tn, 0, none⟩)] 31)).alloc (.cells kc 42)).alloc (.cells #[.func (.func 34) #[] #[.pointer (some ⟨pd, 0, none⟩), .pointer (some ⟨pv, 0, none⟩)]] 89)).alloc (.cells #[.int .i64 0, .int .i64 0] 51)).alloc (.cells zCe 46)).alloc (.cells #[.bool false] 4)).heap.size = w.heap.size + 1 + 1 + 1 + 1 + 1 + 1) := by show _ = _; simp only [World.size_alloc]
  generalize ((((((w.alloc (.cells #[.pointer (some ⟨tn, 0, none⟩)] 31)).alloc (.cells kc 42)).alloc (.cells #[.func (.func 34) #[] #[.pointer (some ⟨pd, 0, none⟩), .pointer (some ⟨pv, 0, none⟩)]] 89)).alloc (.cells #[.int .i64 0, .int .i64 0] 51)).alloc (.cells zCe 46)).alloc (.cells #[.bool false] 4)) = V1 at *
  clear hz46
  refine wp_noP ?_
  refine wp_region_held (S := (fun w' : World => Blk w' (w.heap.size) 31 #[.pointer (some ⟨tn, 0, none⟩)] ∧ Blk w' (w.heap.size + 1) 42 kc ∧ Blk w' (tn) 80 tc)) (by kernel_rfl) ?_
  change wpAnyH _ _ _ _ _ _ _ _ V1.drew
  have hy : Below V1.heap.size V1 V1.drew := (Below.refl _ _).drew
  replace K := lh (K.out.trans (hy.mono K.out.size))
  replace HT := lh (HT.out.below hy)
  replace TB := lh (TB.out.below hy TB.out.lt)
  replace FB := lh (FB.out.below hy FB.out.lt)
  replace FD := lh (FD.out.below hy FD.out.lt)
  replace FV := lh (FV.out.below hy FV.out.lt)
  replace BT := lh (BT.out.below hy BT.out.lt)
  replace BK := lh (BK.out.below hy BK.out.lt)
  replace BF := lh (BF.out.below hy BF.out.lt)
  replace RP := lh (RP.out.below hy RP.out.lt)
  replace RC := lh (RC.out.below hy RC.out.lt)
  replace RB := lh (RB.out.below hy RB.out.lt)
  clear hy
  generalize V1.drew = Y1h0 at *
  refine tkA 0 (?_) ?_ ⟨BT.out, BK.out, TB.out⟩ ?_
  rotate_left
  · (intro w1 hS; obtain ⟨hS0, hS1, hS2⟩ := hS; have q := hS0.cell 0; go_simp; try with_reducible rfl)
  simp only [Act.put, tS1, tS2, tS3]
  refine tkA 1 (?_) ?_ ⟨BT.out, BK.out, TB.out⟩ ?_
  rotate_left
  · (intro w1 hS; go_simp; try with_reducible rfl)
  simp only [Act.put, tS1, tS2, tS3]
  refine tkA 2 (?_) ?_ ⟨BT.out, BK.out, TB.out⟩ ?_
  rotate_left
  · (intro w1 hS; go_simp; try with_reducible rfl)
  simp only [Act.put, tS1, tS2, tS3]
  refine tkA 3 (?_) ?_ ⟨BT.out, BK.out, TB.out⟩ ?_
  rotate_left
  · (intro w1 hS; obtain ⟨hS0, hS1, hS2⟩ := hS; have q := (hS2.cell 0).trans T0.out; go_simp; try with_reducible rfl)
  simp only [Act.put, tS1, tS2, tS3]
  refine tkA 4 (.agg kc) ?_ ⟨BT.out, BK.out, TB.out⟩ ?_
  · (intro w1 hS; obtain ⟨hS0, hS1, hS2⟩ := hS; exact exec_load 42 (.tmp 4) rfl _ rfl _ (run_blk_load (P := Try.prog) 42 (w.heap.size + 1) _ hS1 Try.underlying42 rfl IK.out))
  simp only [Act.put, tS1, tS2, tS3]
  obtain ⟨gI, hgI⟩ : ∃ g, g = Y1h0.heap.size := ⟨_, rfl⟩
  have hI0 : w.heap.size + 1 + 1 + 1 + 1 + 1 < gI := by rw [hgI]; exact RB.out.lt
  refine tkO 5 (fun KK hK => ?_)
  go_simp
  refine (CPL.out Y1h0).mono ?_
  rintro e Y1h1 ⟨rfl, h1, h2, hy⟩
  replace K := lh (K.out.trans (hy.mono K.out.size))
  replace HT := lh (HT.out.below hy)
  replace TB := lh (TB.out.below hy TB.out.lt)
  replace FB := lh (FB.out.below hy FB.out.lt)
  replace FD := lh (FD.out.below hy FD.out.lt)
  replace FV := lh (FV.out.below hy FV.out.lt)
  replace BT := lh (BT.out.below hy BT.out.lt)
  replace BK := lh (BK.out.below hy BK.out.lt)
  replace BF := lh (BF.out.below hy BF.out.lt)
  replace RP := lh (RP.out.below hy RP.out.lt)
  replace RC := lh (RC.out.below hy RC.out.lt)
  replace RB := lh (RB.out.below hy RB.out.lt)
  clear hy
  rw [← hgI] at h1 h2 ⊢
  have PF := lh h1
  have PK := lh h2
  clear h1 h2 hgI
  refine hK.out _ _ ⟨BT.out, BK.out, TB.out⟩ (fun _ => ?_)
  clear hK KK
  try simp only [Act.put, tS1, tS2, tS3]
  refine wpAnyH_done (by kernel_rfl) ?_ _
  simp only [noP]
  go_wp2_with fail
  refine (wpIn_wide (n := 3)).1 ?_
  gi_wp2_with fail
  have hI1 := PK.out.lt
  have HST := lh (itp_stops 2 (by omega) gI (gI + 1) fn L kc fc hi42 hl4 Y1h1 CP.out PF.out PK.out FB.out)
  refine name_act fun act hact => ?_
  refine wpIn_rangeFunc_ownH (a := act) rfl (by omega) (gf := 62) (lb := #[.pointer (some ⟨gI, 0, none⟩), .pointer (some ⟨gI + 1, 0, none⟩)]) (by rw [hact]; rfl) trivial (enters_of Try.func62 (by kernel_rfl) rfl)
    HST.out (fun h k => Kept.trans h k) (kept_b (fun k hk => by rcases hk with rfl | rfl | rfl <;> omega)) (Below.refl _ _) (fun _ => rfl)
    (fun pre W' => Below Y1h1.heap.size Y1h1 W' ∧ fst1 f qf pre = none)
    (fun cd pre W' => cd = .ret ∧ ∃ o, fst1 f qf pre = some o ∧ Blk W' (w.heap.size + 1 + 1 + 1) 51 (pcP o.1) ∧ Blk W' (w.heap.size + 1 + 1 + 1 + 1) 46 o.2.ce ∧ Blk W' (w.heap.size + 1 + 1 + 1 + 1 + 1) 4 #[.bool true] ∧ Below w.heap.size w W')
    (OwnFrom.and (ownFrom_below (Nat.le_refl _) (Nat.le_refl _)) (ownFrom_pure _ (fun pre => fst1 f qf pre = none)))
    (fun cd s A' B' row hs hg hr => by
      obtain ⟨e1, o, e2, e3, e4, e5, e6⟩ := hs
      exact ⟨e1, o, e2, blk_own _ _ _ _ () A' B' row e3 hg hr, blk_own _ _ _ _ () A' B' row e4 hg hr, blk_own _ _ _ _ () A' B' row e5 hg hr, ownFrom_below (Nat.le_refl _) K.out.size () A' B' row e6 hg hr⟩)
    ⟨Below.refl _ _, rfl⟩
    (fun x a' W' => ∃ bp, Y1h1.heap.size ≤ bp ∧ Blk W' bp 51 (pcP x) ∧ a' = { tmps := (act.tmps.setIfInBounds 18 (.agg (pcP x))).setIfInBounds 9 (.pointer (some ⟨bp, 0, none⟩)), defers := [] })
    (fun x a' _ A' B' row hs hg hr => by
      obtain ⟨bp, e1, e2, e3⟩ := hs
      exact ⟨bp, e1, blk_own _ _ bp _ () A' B' row e2 hg hr, e3⟩)
    ?assign ?body ?done ?stop
  case assign =>
    intro l pre x W' KK hI hK
    have hsz := hI.1.size
    subst hact
    clear CP CG CQ CPL hql HST HT TB FB
    unfold pcP at hK ⊢
    gi_wp2
    exact hK _ _ ((KeepsOthers.alloc _ _).from _) (Kept.below ((Below.refl _ W').alloc (Nat.le_refl _) _) (fun k hk => by rcases hk with rfl | rfl | rfl <;> omega)) ⟨hI.1.alloc hsz _, hI.2⟩ ⟨W'.heap.size, hsz, Blk.new _ _ _, rfl⟩
  case body =>
    rintro l pre x a' W' hwl hrec ⟨hB, hnone⟩ ⟨bp, hbp, hbb, rfl⟩ hlt
    subst hact
    simp only [tS1, tS2, tS3]
    have HNN := lh hnone
    have PX := lh hbb
    have HB := lh hB
    have HBP := lh hbp
    clear hnone hbb CP CPL hql HST hrec hwl hlt hi42 hl4 PF PK
    replace K := lh (K.out.trans (hB.mono K.out.size))
    replace HT := lh (HT.out.below hB)
    replace TB := lh (TB.out.below hB TB.out.lt)
    replace FB := lh (FB.out.below hB FB.out.lt)
    replace FD := lh (FD.out.below hB FD.out.lt)
    replace FV := lh (FV.out.below hB FV.out.lt)
    replace BT := lh (BT.out.below hB BT.out.lt)
    replace BK := lh (BK.out.below hB BK.out.lt)
    replace BF := lh (BF.out.below hB BF.out.lt)
    replace RP := lh (RP.out.below hB RP.out.lt)
    replace RC := lh (RC.out.below hB RC.out.lt)
    replace RB := lh (RB.out.below hB RB.out.lt)
    clear hB
    have hRB := RB.out.lt
    have hPX := PX.out.lt
    have hTn := TB.out.lt
    have hW0 := HB.out.size
    have hKs := K.out.size
    have KB := lh (Below.refl W'.heap.size W')
    have IPX : Hid ((Try.prog.info? 51).map (·.size) = some (pcP x).size) := i51c
    have hFD := FD.out.lt
    have hFV := FV.out.lt
    have CGx := lh (CG.out x)
    cases hx : f x with
    | none =>
      rw [hx] at CGx
      have HX := lh (fst1_one_none f qf pre x HNN.out hx)
      have ZI : Hid ((Try.prog.info? 84).map (·.size) = some zSe.size) := by show _ = _; rw [zSe_size]; exact i84
      have ZA : Hid (zSe.all (·.oneCell') = true) := oC_all none
      change Hid (∀ W, _ → Calls _ _ _ _ fun e w' => e = .returned (.tuple #[.agg zSe, .bool false]) ∧ _) at CGx
      clear hx CG CQ
      gi_wp2_with fail
      refine wpIn_region_held_round (S := (fun w' : World => Blk w' (w.heap.size) 31 #[.pointer (some ⟨tn, 0, none⟩)] ∧ Blk w' (bp) 51 (pcP x) ∧ Blk w' (tn) 80 tc)) (by kernel_rfl) (by kernel_rfl) (fun ⟨_, _, h⟩ => h) ?_
      have hy : Below W'.heap.size W' W'.drew := (Below.refl _ _).drew
      replace K := lh (K.out.trans (hy.mono K.out.size))
      replace HT := lh (HT.out.below hy)
      replace TB := lh (TB.out.below hy TB.out.lt)
      replace FB := lh (FB.out.below hy FB.out.lt)
      replace FD := lh (FD.out.below hy FD.out.lt)
      replace FV := lh (FV.out.below hy FV.out.lt)
      replace BT := lh (BT.out.below hy BT.out.lt)
      replace BK := lh (BK.out.below hy BK.out.lt)
      replace BF := lh (BF.out.below hy BF.out.lt)
      replace RP := lh (RP.out.below hy RP.out.lt)
      replace RC := lh (RC.out.below hy RC.out.lt)
      replace RB := lh (RB.out.below hy RB.out.lt)
      replace PX := lh (PX.out.below hy PX.out.lt)
      replace HB := lh (HB.out.trans (hy.mono HB.out.size))
      replace KB := lh (KB.out.trans (hy.mono KB.out.size))
      clear hy
      generalize W'.drew = Y3h0 at *
      refine tkA 0 (?_) ?_ ⟨BT.out, PX.out, TB.out⟩ ?_
      rotate_left
      · (intro w1 hS; obtain ⟨hS0, hS1, hS2⟩ := hS; have q := hS0.cell 0; go_simp; try with_reducible rfl)
      simp only [Act.put, tS1, tS2, tS3]
      refine tkA 1 (?_) ?_ ⟨BT.out, PX.out, TB.out⟩ ?_
      rotate_left
      · (intro w1 hS; go_simp; try with_reducible rfl)
      simp only [Act.put, tS1, tS2, tS3]
      refine tkA 2 (?_) ?_ ⟨BT.out, PX.out, TB.out⟩ ?_
      rotate_left
      · (intro w1 hS; go_simp; try with_reducible rfl)
      simp only [Act.put, tS1, tS2, tS3]
      refine tkA 3 (?_) ?_ ⟨BT.out, PX.out, TB.out⟩ ?_
      rotate_left
      · (intro w1 hS; obtain ⟨hS0, hS1, hS2⟩ := hS; have q := (hS2.cell 1).trans T1.out; go_simp; try with_reducible rfl)
      simp only [Act.put, tS1, tS2, tS3]
      refine tkA 4 (.agg (pcP x)) ?_ ⟨BT.out, PX.out, TB.out⟩ ?_
      · (intro w1 hS; obtain ⟨hS0, hS1, hS2⟩ := hS; exact exec_load 51 (.tmp 9) rfl _ rfl _ (run_blk_load (P := Try.prog) 51 (bp) _ hS1 Try.underlying51 rfl IPX.out))
      simp only [Act.put, tS1, tS2, tS3]
      refine tkB 5 9 (fun KK hK => ?_) (fun KK hK => ?_)
      · skip
        go_simp
        refine (CGx.out Y3h0 HT.out.G).mono ?_
        rintro e Y3h1 ⟨rfl, hy⟩
        replace K := lh (K.out.trans (hy.mono K.out.size))
        replace HT := lh (HT.out.below hy)
        replace TB := lh (TB.out.below hy TB.out.lt)
        replace FB := lh (FB.out.below hy FB.out.lt)
        replace FD := lh (FD.out.below hy FD.out.lt)
        replace FV := lh (FV.out.below hy FV.out.lt)
        replace BT := lh (BT.out.below hy BT.out.lt)
        replace BK := lh (BK.out.below hy BK.out.lt)
        replace BF := lh (BF.out.below hy BF.out.lt)
        replace RP := lh (RP.out.below hy RP.out.lt)
        replace RC := lh (RC.out.below hy RC.out.lt)
        replace RB := lh (RB.out.below hy RB.out.lt)
        replace PX := lh (PX.out.below hy PX.out.lt)
        replace HB := lh (HB.out.trans (hy.mono HB.out.size))
        replace KB := lh (KB.out.trans (hy.mono KB.out.size))
        clear hy
        refine hK.out _ _ ⟨BT.out, PX.out, TB.out⟩ (fun _ => ?_)
        clear hK KK
        try simp only [Act.put, tS1, tS2, tS3]
        refine tkA 6 (?_) ?_ ⟨BT.out, PX.out, TB.out⟩ ?_
        rotate_left
        · (intro w1 hS; go_simp; try with_reducible rfl)
        simp only [Act.put, tS1, tS2, tS3]
        refine tkA 7 (?_) ?_ ⟨BT.out, PX.out, TB.out⟩ ?_
        rotate_left
        · (intro w1 hS; go_simp; try with_reducible rfl)
        simp only [Act.put, tS1, tS2, tS3]
        refine tkA 8 (?_) ?_ ⟨BT.out, PX.out, TB.out⟩ ?_
        rotate_left
        · (intro w1 hS; go_simp; try with_reducible rfl)
        simp only [Act.put, tS1, tS2, tS3]
        have hz84 := zero84
        refine tkO 9 (fun KK hK => ?_)
        go_simp
        have pb := Blk.new Y3h1 84 zSe
        have hy := (Below.refl Y3h1.heap.size Y3h1).alloc (Nat.le_refl _) (.cells zSe 84)
        obtain ⟨gX, hgX⟩ : ∃ g, g = Y3h1.heap.size := ⟨_, rfl⟩
        have hg0X : W'.heap.size ≤ gX := by rw [hgX]; exact KB.out.size
        replace K := lh (K.out.trans (hy.mono K.out.size))
        replace HT := lh (HT.out.below hy)
        replace TB := lh (TB.out.below hy TB.out.lt)
        replace FB := lh (FB.out.below hy FB.out.lt)
        replace FD := lh (FD.out.below hy FD.out.lt)
        replace FV := lh (FV.out.below hy FV.out.lt)
        replace BT := lh (BT.out.below hy BT.out.lt)
        replace BK := lh (BK.out.below hy BK.out.lt)
        replace BF := lh (BF.out.below hy BF.out.lt)
        replace RP := lh (RP.out.below hy RP.out.lt)
        replace RC := lh (RC.out.below hy RC.out.lt)
        replace RB := lh (RB.out.below hy RB.out.lt)
        replace PX := lh (PX.out.below hy PX.out.lt)
        replace HB := lh (HB.out.trans (hy.mono HB.out.size))
        replace KB := lh (KB.out.trans (hy.mono KB.out.size))
        rw [← hgX] at pb ⊢
        have X := lh pb
        clear pb hy hgX
        generalize Y3h1.alloc (.cells zSe 84) = Y3h2 at *
        refine hK.out _ _ ⟨BT.out, PX.out, TB.out⟩ (fun _ => ?_)
        clear hK KK
        try simp only [Act.put, tS1, tS2, tS3]
        clear hz84
        refine tkO 10 (fun KK hK => ?_)
        rw [if_pos (by rfl)]
        refine wp_blk_store 84 (.tmp 10) (.tmp 26) rfl zSe rfl rfl X.out zz84 ZI.out ZA.out ?_
        intro Y3h3 hA hF hB
        replace K := lh (K.out.trans (hB _ (by omega)))
        replace HT := lh (HT.out.belowB (hB (w.heap.size) (by omega)) (by omega))
        replace TB := lh (show Blk _ _ _ _ from (hF _ (by omega)).trans TB.out)
        replace FB := lh (show Blk _ _ _ _ from (hF _ (by omega)).trans FB.out)
        replace FD := lh (show Blk _ _ _ _ from (hF _ (by omega)).trans FD.out)
        replace FV := lh (show Blk _ _ _ _ from (hF _ (by omega)).trans FV.out)
        replace BT := lh (show Blk _ _ _ _ from (hF _ (by omega)).trans BT.out)
        replace BK := lh (show Blk _ _ _ _ from (hF _ (by omega)).trans BK.out)
        replace BF := lh (show Blk _ _ _ _ from (hF _ (by omega)).trans BF.out)
        replace RP := lh (show Blk _ _ _ _ from (hF _ (by omega)).trans RP.out)
        replace RC := lh (show Blk _ _ _ _ from (hF _ (by omega)).trans RC.out)
        replace RB := lh (show Blk _ _ _ _ from (hF _ (by omega)).trans RB.out)
        replace PX := lh (show Blk _ _ _ _ from (hF _ (by omega)).trans PX.out)
        replace HB := lh (HB.out.trans (hB _ (by omega)))
        replace KB := lh (KB.out.trans (hB _ (by omega)))
        replace X := lh hA
        clear hA hF hB
        refine hK.out _ _ ⟨BT.out, PX.out, TB.out⟩ (fun _ => ?_)
        clear hK KK
        try simp only [Act.put]
        refine tkA 11 (?_) ?_ ⟨BT.out, PX.out, TB.out⟩ ?_
        rotate_left
        · (intro w1 hS; go_simp; try with_reducible rfl)
        simp only [Act.put, tS1, tS2, tS3]
        refine wpAnyH_done (by kernel_rfl) ?_ _
        gi_wp2
        refine ⟨fun f hf => (by cases hf), ?_⟩
        gi_wp2
        have hr := HB.out
        exact ⟨keepsF_below KB.out, Kept.below KB.out (fun k hk => by rcases hk with rfl | rfl | rfl <;> omega), HB.out, HX.out⟩
      · skip
        have hz84 := zero84
        go_simp
        have pb := Blk.new Y3h0 84 zSe
        have hy := (Below.refl Y3h0.heap.size Y3h0).alloc (Nat.le_refl _) (.cells zSe 84)
        obtain ⟨gX, hgX⟩ : ∃ g, g = Y3h0.heap.size := ⟨_, rfl⟩
        have hg0X : W'.heap.size ≤ gX := by rw [hgX]; exact KB.out.size
        replace K := lh (K.out.trans (hy.mono K.out.size))
        replace HT := lh (HT.out.below hy)
        replace TB := lh (TB.out.below hy TB.out.lt)
        replace FB := lh (FB.out.below hy FB.out.lt)
        replace FD := lh (FD.out.below hy FD.out.lt)
        replace FV := lh (FV.out.below hy FV.out.lt)
        replace BT := lh (BT.out.below hy BT.out.lt)
        replace BK := lh (BK.out.below hy BK.out.lt)
        replace BF := lh (BF.out.below hy BF.out.lt)
        replace RP := lh (RP.out.below hy RP.out.lt)
        replace RC := lh (RC.out.below hy RC.out.lt)
        replace RB := lh (RB.out.below hy RB.out.lt)
        replace PX := lh (PX.out.below hy PX.out.lt)
        replace HB := lh (HB.out.trans (hy.mono HB.out.size))
        replace KB := lh (KB.out.trans (hy.mono KB.out.size))
        rw [← hgX] at pb ⊢
        have X := lh pb
        clear pb hy hgX
        generalize Y3h0.alloc (.cells zSe 84) = Y3h1 at *
        refine hK.out _ _ ⟨BT.out, PX.out, TB.out⟩ (fun _ => ?_)
        clear hK KK
        try simp only [Act.put, tS1, tS2, tS3]
        clear hz84
        refine tkO 5 (fun KK hK => ?_)
        go_simp
        refine (CGx.out Y3h1 HT.out.G).mono ?_
        rintro e Y3h2 ⟨rfl, hy⟩
        replace K := lh (K.out.trans (hy.mono K.out.size))
        replace HT := lh (HT.out.below hy)
        replace TB := lh (TB.out.below hy TB.out.lt)
        replace FB := lh (FB.out.below hy FB.out.lt)
        replace FD := lh (FD.out.below hy FD.out.lt)
        replace FV := lh (FV.out.below hy FV.out.lt)
        replace BT := lh (BT.out.below hy BT.out.lt)
        replace BK := lh (BK.out.below hy BK.out.lt)
        replace BF := lh (BF.out.below hy BF.out.lt)
        replace RP := lh (RP.out.below hy RP.out.lt)
        replace RC := lh (RC.out.below hy RC.out.lt)
        replace RB := lh (RB.out.below hy RB.out.lt)
        replace PX := lh (PX.out.below hy PX.out.lt)
        replace HB := lh (HB.out.trans (hy.mono HB.out.size))
        replace KB := lh (KB.out.trans (hy.mono KB.out.size))
        replace X := lh (X.out.below hy X.out.lt)
        clear hy
        refine hK.out _ _ ⟨BT.out, PX.out, TB.out⟩ (fun _ => ?_)
        clear hK KK
        try simp only [Act.put, tS1, tS2, tS3]
        refine tkA 6 (?_) ?_ ⟨BT.out, PX.out, TB.out⟩ ?_
        rotate_left
        · (intro w1 hS; go_simp; try with_reducible rfl)
        simp only [Act.put, tS1, tS2, tS3]
        refine tkA 7 (?_) ?_ ⟨BT.out, PX.out, TB.out⟩ ?_
        rotate_left
        · (intro w1 hS; go_simp; try with_reducible rfl)
        simp only [Act.put, tS1, tS2, tS3]
        refine tkA 8 (?_) ?_ ⟨BT.out, PX.out, TB.out⟩ ?_
        rotate_left
        · (intro w1 hS; go_simp; try with_reducible rfl)
        simp only [Act.put, tS1, tS2, tS3]
        refine tkO 10 (fun KK hK => ?_)
        rw [if_pos (by rfl)]
        refine wp_blk_store 84 (.tmp 10) (.tmp 26) rfl zSe rfl rfl X.out zz84 ZI.out ZA.out ?_
        intro Y3h3 hA hF hB
        replace K := lh (K.out.trans (hB _ (by omega)))
        replace HT := lh (HT.out.belowB (hB (w.heap.size) (by omega)) (by omega))
        replace TB := lh (show Blk _ _ _ _ from (hF _ (by omega)).trans TB.out)
        replace FB := lh (show Blk _ _ _ _ from (hF _ (by omega)).trans FB.out)
        replace FD := lh (show Blk _ _ _ _ from (hF _ (by omega)).trans FD.out)
        replace FV := lh (show Blk _ _ _ _ from (hF _ (by omega)).trans FV.out)
        replace BT := lh (show Blk _ _ _ _ from (hF _ (by omega)).trans BT.out)
        replace BK := lh (show Blk _ _ _ _ from (hF _ (by omega)).trans BK.out)
        replace BF := lh (show Blk _ _ _ _ from (hF _ (by omega)).trans BF.out)
        replace RP := lh (show Blk _ _ _ _ from (hF _ (by omega)).trans RP.out)
        replace RC := lh (show Blk _ _ _ _ from (hF _ (by omega)).trans RC.out)
        replace RB := lh (show Blk _ _ _ _ from (hF _ (by omega)).trans RB.out)
        replace PX := lh (show Blk _ _ _ _ from (hF _ (by omega)).trans PX.out)
        replace HB := lh (HB.out.trans (hB _ (by omega)))
        replace KB := lh (KB.out.trans (hB _ (by omega)))
        replace X := lh hA
        clear hA hF hB
        refine hK.out _ _ ⟨BT.out, PX.out, TB.out⟩ (fun _ => ?_)
        clear hK KK
        try simp only [Act.put]
        refine tkA 11 (?_) ?_ ⟨BT.out, PX.out, TB.out⟩ ?_
        rotate_left
        · (intro w1 hS; go_simp; try with_reducible rfl)
        simp only [Act.put, tS1, tS2, tS3]
        refine wpAnyH_done (by kernel_rfl) ?_ _
        gi_wp2
        refine ⟨fun f hf => (by cases hf), ?_⟩
        gi_wp2
        have hr := HB.out
        exact ⟨keepsF_below KB.out, Kept.below KB.out (fun k hk => by rcases hk with rfl | rfl | rfl <;> omega), HB.out, HX.out⟩
    | some s =>
      rw [hx] at CGx
      have SI := s.ib
      have SA : Hid (s.cs.all (·.oneCell') = true) := oC_all (some s)
      have SY : Hid (s.cs.size = zSe.size) := by show _ = _; rw [s.size, zSe_size]
      have CQs := lh (CQ.out s)
      have SP := lh (seC_cell s.k s.fit true s.d s.v s.r)
      change Hid ((s.cs.toList.drop 37).take s.ce.toList.length = s.ce.toList) at SP
      have HX0 := lh (fun hq => fst1_one_no f qf pre x s HNN.out hx hq)
      have HX1 := lh (fun hq => fst1_one_yes f qf pre x s HNN.out hx hq)
      change Hid (∀ W, _ → Calls _ _ _ _ fun e w' => e = .returned (.tuple #[.agg s.cs, .bool true]) ∧ _) at CGx
      clear hx CG CQ
      gi_wp2_with fail
      refine wpIn_region_held_round (S := (fun w' : World => Blk w' (w.heap.size) 31 #[.pointer (some ⟨tn, 0, none⟩)] ∧ Blk w' (bp) 51 (pcP x) ∧ Blk w' (tn) 80 tc)) (by kernel_rfl) (by kernel_rfl) (fun ⟨_, _, h⟩ => h) ?_
      have hy : Below W'.heap.size W' W'.drew := (Below.refl _ _).drew
      replace K := lh (K.out.trans (hy.mono K.out.size))
      replace HT := lh (HT.out.below hy)
      replace TB := lh (TB.out.below hy TB.out.lt)
      replace FB := lh (FB.out.below hy FB.out.lt)
      replace FD := lh (FD.out.below hy FD.out.lt)
      replace FV := lh (FV.out.below hy FV.out.lt)
      replace BT := lh (BT.out.below hy BT.out.lt)
      replace BK := lh (BK.out.below hy BK.out.lt)
      replace BF := lh (BF.out.below hy BF.out.lt)
      replace RP := lh (RP.out.below hy RP.out.lt)
      replace RC := lh (RC.out.below hy RC.out.lt)
      replace RB := lh (RB.out.below hy RB.out.lt)
      replace PX := lh (PX.out.below hy PX.out.lt)
      replace HB := lh (HB.out.trans (hy.mono HB.out.size))
      replace KB := lh (KB.out.trans (hy.mono KB.out.size))
      clear hy
      generalize W'.drew = Y3h0 at *
      refine tkA 0 (?_) ?_ ⟨BT.out, PX.out, TB.out⟩ ?_
      rotate_left
      · (intro w1 hS; obtain ⟨hS0, hS1, hS2⟩ := hS; have q := hS0.cell 0; go_simp; try with_reducible rfl)
      simp only [Act.put, tS1, tS2, tS3]
      refine tkA 1 (?_) ?_ ⟨BT.out, PX.out, TB.out⟩ ?_
      rotate_left
      · (intro w1 hS; go_simp; try with_reducible rfl)
      simp only [Act.put, tS1, tS2, tS3]
      refine tkA 2 (?_) ?_ ⟨BT.out, PX.out, TB.out⟩ ?_
      rotate_left
      · (intro w1 hS; go_simp; try with_reducible rfl)
      simp only [Act.put, tS1, tS2, tS3]
      refine tkA 3 (?_) ?_ ⟨BT.out, PX.out, TB.out⟩ ?_
      rotate_left
      · (intro w1 hS; obtain ⟨hS0, hS1, hS2⟩ := hS; have q := (hS2.cell 1).trans T1.out; go_simp; try with_reducible rfl)
      simp only [Act.put, tS1, tS2, tS3]
      refine tkA 4 (.agg (pcP x)) ?_ ⟨BT.out, PX.out, TB.out⟩ ?_
      · (intro w1 hS; obtain ⟨hS0, hS1, hS2⟩ := hS; exact exec_load 51 (.tmp 9) rfl _ rfl _ (run_blk_load (P := Try.prog) 51 (bp) _ hS1 Try.underlying51 rfl IPX.out))
      simp only [Act.put, tS1, tS2, tS3]
      refine tkB 5 9 (fun KK hK => ?_) (fun KK hK => ?_)
      · skip
        go_simp
        refine (CGx.out Y3h0 HT.out.G).mono ?_
        rintro e Y3h1 ⟨rfl, hy⟩
        replace K := lh (K.out.trans (hy.mono K.out.size))
        replace HT := lh (HT.out.below hy)
        replace TB := lh (TB.out.below hy TB.out.lt)
        replace FB := lh (FB.out.below hy FB.out.lt)
        replace FD := lh (FD.out.below hy FD.out.lt)
        replace FV := lh (FV.out.below hy FV.out.lt)
        replace BT := lh (BT.out.below hy BT.out.lt)
        replace BK := lh (BK.out.below hy BK.out.lt)
        replace BF := lh (BF.out.below hy BF.out.lt)
        replace RP := lh (RP.out.below hy RP.out.lt)
        replace RC := lh (RC.out.below hy RC.out.lt)
        replace RB := lh (RB.out.below hy RB.out.lt)
        replace PX := lh (PX.out.below hy PX.out.lt)
        replace HB := lh (HB.out.trans (hy.mono HB.out.size))
        replace KB := lh (KB.out.trans (hy.mono KB.out.size))
        clear hy
        refine hK.out _ _ ⟨BT.out, PX.out, TB.out⟩ (fun _ => ?_)
        clear hK KK
        try simp only [Act.put, tS1, tS2, tS3]
        refine tkA 6 (?_) ?_ ⟨BT.out, PX.out, TB.out⟩ ?_
        rotate_left
        · (intro w1 hS; go_simp; try with_reducible rfl)
        simp only [Act.put, tS1, tS2, tS3]
        refine tkA 7 (?_) ?_ ⟨BT.out, PX.out, TB.out⟩ ?_
        rotate_left
        · (intro w1 hS; go_simp; try with_reducible rfl)
        simp only [Act.put, tS1, tS2, tS3]
        refine tkA 8 (?_) ?_ ⟨BT.out, PX.out, TB.out⟩ ?_
        rotate_left
        · (intro w1 hS; go_simp; try with_reducible rfl)
        simp only [Act.put, tS1, tS2, tS3]
        have hz84 := zero84
        refine tkO 9 (fun KK hK => ?_)
        go_simp
        have pb := Blk.new Y3h1 84 zSe
        have hy := (Below.refl Y3h1.heap.size Y3h1).alloc (Nat.le_refl _) (.cells zSe 84)
        obtain ⟨gX, hgX⟩ : ∃ g, g = Y3h1.heap.size := ⟨_, rfl⟩
        have hg0X : W'.heap.size ≤ gX := by rw [hgX]; exact KB.out.size
        replace K := lh (K.out.trans (hy.mono K.out.size))
        replace HT := lh (HT.out.below hy)
        replace TB := lh (TB.out.below hy TB.out.lt)
        replace FB := lh (FB.out.below hy FB.out.lt)
        replace FD := lh (FD.out.below hy FD.out.lt)
        replace FV := lh (FV.out.below hy FV.out.lt)
        replace BT := lh (BT.out.below hy BT.out.lt)
        replace BK := lh (BK.out.below hy BK.out.lt)
        replace BF := lh (BF.out.below hy BF.out.lt)
        replace RP := lh (RP.out.below hy RP.out.lt)
        replace RC := lh (RC.out.below hy RC.out.lt)
        replace RB := lh (RB.out.below hy RB.out.lt)
        replace PX := lh (PX.out.below hy PX.out.lt)
        replace HB := lh (HB.out.trans (hy.mono HB.out.size))
        replace KB := lh (KB.out.trans (hy.mono KB.out.size))
        rw [← hgX] at pb ⊢
        have X := lh pb
        clear pb hy hgX
        generalize Y3h1.alloc (.cells zSe 84) = Y3h2 at *
        refine hK.out _ _ ⟨BT.out, PX.out, TB.out⟩ (fun _ => ?_)
        clear hK KK
        try simp only [Act.put, tS1, tS2, tS3]
        clear hz84
        refine tkO 10 (fun KK hK => ?_)
        rw [if_pos (by rfl)]
        refine wp_blk_store 84 (.tmp 10) (.tmp 26) rfl s.cs rfl rfl X.out SY.out SI.out SA.out ?_
        intro Y3h3 hA hF hB
        replace K := lh (K.out.trans (hB _ (by omega)))
        replace HT := lh (HT.out.belowB (hB (w.heap.size) (by omega)) (by omega))
        replace TB := lh (show Blk _ _ _ _ from (hF _ (by omega)).trans TB.out)
        replace FB := lh (show Blk _ _ _ _ from (hF _ (by omega)).trans FB.out)
        replace FD := lh (show Blk _ _ _ _ from (hF _ (by omega)).trans FD.out)
        replace FV := lh (show Blk _ _ _ _ from (hF _ (by omega)).trans FV.out)
        replace BT := lh (show Blk _ _ _ _ from (hF _ (by omega)).trans BT.out)
        replace BK := lh (show Blk _ _ _ _ from (hF _ (by omega)).trans BK.out)
        replace BF := lh (show Blk _ _ _ _ from (hF _ (by omega)).trans BF.out)
        replace RP := lh (show Blk _ _ _ _ from (hF _ (by omega)).trans RP.out)
        replace RC := lh (show Blk _ _ _ _ from (hF _ (by omega)).trans RC.out)
        replace RB := lh (show Blk _ _ _ _ from (hF _ (by omega)).trans RB.out)
        replace PX := lh (show Blk _ _ _ _ from (hF _ (by omega)).trans PX.out)
        replace HB := lh (HB.out.trans (hB _ (by omega)))
        replace KB := lh (KB.out.trans (hB _ (by omega)))
        replace X := lh hA
        clear hA hF hB
        refine hK.out _ _ ⟨BT.out, PX.out, TB.out⟩ (fun _ => ?_)
        clear hK KK
        try simp only [Act.put]
        refine tkA 11 (?_) ?_ ⟨BT.out, PX.out, TB.out⟩ ?_
        rotate_left
        · (intro w1 hS; go_simp; try with_reducible rfl)
        simp only [Act.put, tS1, tS2, tS3]
        refine wpAnyH_done (by kernel_rfl) ?_ _
        have c5 := BF.out.cell 0
        have L31 : (loadVar 84 ⟨gX, 0, none⟩).run Try.prog Y3h3 = .ok (.agg s.cs) Y3h3 := run_blk_load (P := Try.prog) 84 gX _ X.out Try.underlying84 rfl SI.out
        replace L31 := lh L31
        gi_wp2_with ((with_reducible refine wpListIn_load_want (op := ⟨some 31, .load 84 (.tmp 10), _, _, _, _⟩) ?wg1 84 (.tmp 10) ?wo1 ⟨gX, 0, none⟩ ?wx1 (.agg s.cs) L31.out ?_); (case wg1 => rfl); (case wo1 => rfl); (case wx1 => rfl))
        refine ⟨trivial, ?_⟩
        refine (CallsIn.inRound l (callsIn_wide.2 (CQs.out Y3h3 FD.out FV.out))).mono ?_
        rintro e Vc ⟨rfl, hy⟩
        clear L31 c5
        replace K := lh (K.out.trans (hy.mono K.out.size))
        replace HT := lh (HT.out.below hy)
        replace TB := lh (TB.out.below hy TB.out.lt)
        replace FB := lh (FB.out.below hy FB.out.lt)
        replace FD := lh (FD.out.below hy FD.out.lt)
        replace FV := lh (FV.out.below hy FV.out.lt)
        replace BT := lh (BT.out.below hy BT.out.lt)
        replace BK := lh (BK.out.below hy BK.out.lt)
        replace BF := lh (BF.out.below hy BF.out.lt)
        replace RP := lh (RP.out.below hy RP.out.lt)
        replace RC := lh (RC.out.below hy RC.out.lt)
        replace RB := lh (RB.out.below hy RB.out.lt)
        replace PX := lh (PX.out.below hy PX.out.lt)
        replace HB := lh (HB.out.trans (hy.mono HB.out.size))
        replace KB := lh (KB.out.trans (hy.mono KB.out.size))
        replace X := lh (X.out.below hy X.out.lt)
        clear hy
        cases hq : qf s with
        | false =>
          gi_wp2
          have hr := HB.out
          exact ⟨keepsF_below KB.out, Kept.below KB.out (fun k hk => by rcases hk with rfl | rfl | rfl <;> omega), HB.out, HX0.out hq⟩
        | true =>
          have HX := lh (HX1.out hq)
          clear hq HX0 HX1 CQs CGx
          have KF := lh (keepsF_below (b := Y1h1.heap.size) KB.out)
          clear KB HB BT TB FB FD FV
          gi_wp2_with fail
          have IX0 := IPX.out
          have PY : Hid ((pcP x).size = (#[Value.int .i64 0, .int .i64 0] : Array Value).size) := rfl
          have PA : Hid ((pcP x).all (·.oneCell') = true) := pcP_all x
          have CY : Hid (s.ce.size = zCe.size) := rfl
          have CI : Hid ((Try.prog.info? 46).map (·.size) = some s.ce.size) := i46c
          have CA : Hid (s.ce.all (·.oneCell') = true) := ceC_all _ _ _ _
          have CI2 : Hid ((Try.prog.info? 46).map (·.size) = some s.ce.toList.length) := i46c
          refine wpIn_region_held_round (S := (fun w' : World => Blk w' (bp) 51 (pcP x) ∧ Blk w' (gX) 84 s.cs)) (by kernel_rfl) (by kernel_rfl) (fun ⟨_, _, h⟩ => h) ?_
          have hy : Below Vc.heap.size Vc Vc.drew := (Below.refl _ _).drew
          replace K := lh (K.out.trans (hy.mono K.out.size))
          replace HT := lh (HT.out.below hy)
          replace BK := lh (BK.out.below hy BK.out.lt)
          replace BF := lh (BF.out.below hy BF.out.lt)
          replace RP := lh (RP.out.below hy RP.out.lt)
          replace RC := lh (RC.out.below hy RC.out.lt)
          replace RB := lh (RB.out.below hy RB.out.lt)
          replace PX := lh (PX.out.below hy PX.out.lt)
          replace X := lh (X.out.below hy X.out.lt)
          replace KF := lh (KF.out.trans (keepsF_below hy))
          clear hy
          generalize Vc.drew = Y5h0 at *
          refine tkA 0 (.agg (pcP x)) ?_ ⟨PX.out, X.out⟩ ?_
          · (intro w1 hS; obtain ⟨hS0, hS1⟩ := hS; exact exec_load 51 (.tmp 9) rfl _ rfl _ (run_blk_load (P := Try.prog) 51 (bp) _ hS0 Try.underlying51 rfl IPX.out))
          simp only [Act.put, tS1, tS2, tS3]
          refine tkA 1 (?_) ?_ ⟨PX.out, X.out⟩ ?_
          rotate_left
          · (intro w1 hS; go_simp; try with_reducible rfl)
          simp only [Act.put, tS1, tS2, tS3]
          refine tkA 2 (.agg s.ce) ?_ ⟨PX.out, X.out⟩ ?_
          · (intro w1 hS; obtain ⟨hS0, hS1⟩ := hS; exact exec_load 46 (.tmp 35) rfl _ rfl _ (by have h := run_part_load (P := Try.prog) 46 37 s.ce.toList _ hS1 SP.out Try.underlying46 rfl CI2.out; rwa [Array.toArray_toList] at h))
          simp only [Act.put, tS1, tS2, tS3]
          refine tkO 3 (fun KK hK => ?_)
          rw [if_pos (by rfl)]
          refine wp_blk_store 51 (.tmp 6) (.tmp 34) rfl (pcP x) rfl rfl RP.out PY.out IPX.out PA.out ?_
          intro Y5h1 hA hF hB
          replace K := lh (K.out.trans (hB _ (by omega)))
          replace HT := lh (HT.out.belowB (hB (w.heap.size) (by omega)) (by omega))
          replace BK := lh (show Blk _ _ _ _ from (hF _ (by omega)).trans BK.out)
          replace BF := lh (show Blk _ _ _ _ from (hF _ (by omega)).trans BF.out)
          replace RC := lh (show Blk _ _ _ _ from (hF _ (by omega)).trans RC.out)
          replace RB := lh (show Blk _ _ _ _ from (hF _ (by omega)).trans RB.out)
          replace PX := lh (show Blk _ _ _ _ from (hF _ (by omega)).trans PX.out)
          replace X := lh (show Blk _ _ _ _ from (hF _ (by omega)).trans X.out)
          replace KF := lh (KF.out.trans (keepsF_store RP.out hF (hB 0 (Nat.zero_le _)).size))
          replace RP := lh hA
          clear hA hF hB
          refine hK.out _ _ ⟨PX.out, X.out⟩ (fun _ => ?_)
          clear hK KK
          try simp only [Act.put]
          refine tkO 4 (fun KK hK => ?_)
          rw [if_pos (by rfl)]
          refine wp_blk_store 46 (.tmp 7) (.tmp 36) rfl s.ce rfl rfl RC.out CY.out CI.out CA.out ?_
          intro Y5h2 hA hF hB
          replace K := lh (K.out.trans (hB _ (by omega)))
          replace HT := lh (HT.out.belowB (hB (w.heap.size) (by omega)) (by omega))
          replace BK := lh (show Blk _ _ _ _ from (hF _ (by omega)).trans BK.out)
          replace BF := lh (show Blk _ _ _ _ from (hF _ (by omega)).trans BF.out)
          replace RP := lh (show Blk _ _ _ _ from (hF _ (by omega)).trans RP.out)
          replace RB := lh (show Blk _ _ _ _ from (hF _ (by omega)).trans RB.out)
          replace PX := lh (show Blk _ _ _ _ from (hF _ (by omega)).trans PX.out)
          replace X := lh (show Blk _ _ _ _ from (hF _ (by omega)).trans X.out)
          replace KF := lh (KF.out.trans (keepsF_store RC.out hF (hB 0 (Nat.zero_le _)).size))
          replace RC := lh hA
          clear hA hF hB
          refine hK.out _ _ ⟨PX.out, X.out⟩ (fun _ => ?_)
          clear hK KK
          try simp only [Act.put]
          refine tkO 5 (fun KK hK => ?_)
          have k1 : Y5h2.cell? ⟨w.heap.size + 1 + 1 + 1 + 1 + 1, 0, none⟩ = some (.bool false) := RB.out.cell 0
          have k2 := RB.out.frozen 0
          go_simp
          replace K := lh (K.out.setCell (p := ⟨w.heap.size + 1 + 1 + 1 + 1 + 1, 0, none⟩) (by show _ ≤ w.heap.size + 1 + 1 + 1 + 1 + 1; omega) (.bool true))
          replace HT := lh (HT.out.belowB (((Below.refl (w.heap.size) Y5h2).setCell (p := ⟨w.heap.size + 1 + 1 + 1 + 1 + 1, 0, none⟩) (by show _ ≤ w.heap.size + 1 + 1 + 1 + 1 + 1; omega) (.bool true))) (by omega))
          replace BK := lh (BK.out.far (p := ⟨w.heap.size + 1 + 1 + 1 + 1 + 1, 0, none⟩) (by show _ ≠ w.heap.size + 1 + 1 + 1 + 1 + 1; omega) (.bool true))
          replace BF := lh (BF.out.far (p := ⟨w.heap.size + 1 + 1 + 1 + 1 + 1, 0, none⟩) (by show _ ≠ w.heap.size + 1 + 1 + 1 + 1 + 1; omega) (.bool true))
          replace RP := lh (RP.out.far (p := ⟨w.heap.size + 1 + 1 + 1 + 1 + 1, 0, none⟩) (by show _ ≠ w.heap.size + 1 + 1 + 1 + 1 + 1; omega) (.bool true))
          replace RC := lh (RC.out.far (p := ⟨w.heap.size + 1 + 1 + 1 + 1 + 1, 0, none⟩) (by show _ ≠ w.heap.size + 1 + 1 + 1 + 1 + 1; omega) (.bool true))
          replace PX := lh (PX.out.far (p := ⟨w.heap.size + 1 + 1 + 1 + 1 + 1, 0, none⟩) (by show _ ≠ w.heap.size + 1 + 1 + 1 + 1 + 1; omega) (.bool true))
          replace X := lh (X.out.far (p := ⟨w.heap.size + 1 + 1 + 1 + 1 + 1, 0, none⟩) (by show _ ≠ w.heap.size + 1 + 1 + 1 + 1 + 1; omega) (.bool true))
          replace KF := lh (KF.out.trans ((KeepsOthers.setCell Y5h2 ⟨w.heap.size + 1 + 1 + 1 + 1 + 1, 0, none⟩ (.bool true)).from _))
          replace RB := lh (show Blk _ _ 4 #[.bool true] from RB.out.set_ 0 (.bool true))
          clear k1 k2
          generalize Y5h2.setCell ⟨w.heap.size + 1 + 1 + 1 + 1 + 1, 0, none⟩ (.bool true) = Y5h3 at *
          refine hK.out _ _ ⟨PX.out, X.out⟩ (fun _ => ?_)
          clear hK KK
          try simp only [Act.put]
          refine wpAnyH_done (by kernel_rfl) ?_ _
          gi_wp2
          exact ⟨KF.out, rfl, (x, s), HX.out, RP.out, RC.out, RB.out, K.out⟩
      · skip
        have hz84 := zero84
        go_simp
        have pb := Blk.new Y3h0 84 zSe
        have hy := (Below.refl Y3h0.heap.size Y3h0).alloc (Nat.le_refl _) (.cells zSe 84)
        obtain ⟨gX, hgX⟩ : ∃ g, g = Y3h0.heap.size := ⟨_, rfl⟩
        have hg0X : W'.heap.size ≤ gX := by rw [hgX]; exact KB.out.size
        replace K := lh (K.out.trans (hy.mono K.out.size))
        replace HT := lh (HT.out.below hy)
        replace TB := lh (TB.out.below hy TB.out.lt)
        replace FB := lh (FB.out.below hy FB.out.lt)
        replace FD := lh (FD.out.below hy FD.out.lt)
        replace FV := lh (FV.out.below hy FV.out.lt)
        replace BT := lh (BT.out.below hy BT.out.lt)
        replace BK := lh (BK.out.below hy BK.out.lt)
        replace BF := lh (BF.out.below hy BF.out.lt)
        replace RP := lh (RP.out.below hy RP.out.lt)
        replace RC := lh (RC.out.below hy RC.out.lt)
        replace RB := lh (RB.out.below hy RB.out.lt)
        replace PX := lh (PX.out.below hy PX.out.lt)
        replace HB := lh (HB.out.trans (hy.mono HB.out.size))
        replace KB := lh (KB.out.trans (hy.mono KB.out.size))
        rw [← hgX] at pb ⊢
        have X := lh pb
        clear pb hy hgX
        generalize Y3h0.alloc (.cells zSe 84) = Y3h1 at *
        refine hK.out _ _ ⟨BT.out, PX.out, TB.out⟩ (fun _ => ?_)
        clear hK KK
        try simp only [Act.put, tS1, tS2, tS3]
        clear hz84
        refine tkO 5 (fun KK hK => ?_)
        go_simp
        refine (CGx.out Y3h1 HT.out.G).mono ?_
        rintro e Y3h2 ⟨rfl, hy⟩
        replace K := lh (K.out.trans (hy.mono K.out.size))
        replace HT := lh (HT.out.below hy)
        replace TB := lh (TB.out.below hy TB.out.lt)
        replace FB := lh (FB.out.below hy FB.out.lt)
        replace FD := lh (FD.out.below hy FD.out.lt)
        replace FV := lh (FV.out.below hy FV.out.lt)
        replace BT := lh (BT.out.below hy BT.out.lt)
        replace BK := lh (BK.out.below hy BK.out.lt)
        replace BF := lh (BF.out.below hy BF.out.lt)
        replace RP := lh (RP.out.below hy RP.out.lt)
        replace RC := lh (RC.out.below hy RC.out.lt)
        replace RB := lh (RB.out.below hy RB.out.lt)
        replace PX := lh (PX.out.below hy PX.out.lt)
        replace HB := lh (HB.out.trans (hy.mono HB.out.size))
        replace KB := lh (KB.out.trans (hy.mono KB.out.size))
        replace X := lh (X.out.below hy X.out.lt)
        clear hy
        refine hK.out _ _ ⟨BT.out, PX.out, TB.out⟩ (fun _ => ?_)
        clear hK KK
        try simp only [Act.put, tS1, tS2, tS3]
        refine tkA 6 (?_) ?_ ⟨BT.out, PX.out, TB.out⟩ ?_
        rotate_left
        · (intro w1 hS; go_simp; try with_reducible rfl)
        simp only [Act.put, tS1, tS2, tS3]
        refine tkA 7 (?_) ?_ ⟨BT.out, PX.out, TB.out⟩ ?_
        rotate_left
        · (intro w1 hS; go_simp; try with_reducible rfl)
        simp only [Act.put, tS1, tS2, tS3]
        refine tkA 8 (?_) ?_ ⟨BT.out, PX.out, TB.out⟩ ?_
        rotate_left
        · (intro w1 hS; go_simp; try with_reducible rfl)
        simp only [Act.put, tS1, tS2, tS3]
        refine tkO 10 (fun KK hK => ?_)
        rw [if_pos (by rfl)]
        refine wp_blk_store 84 (.tmp 10) (.tmp 26) rfl s.cs rfl rfl X.out SY.out SI.out SA.out ?_
        intro Y3h3 hA hF hB
        replace K := lh (K.out.trans (hB _ (by omega)))
        replace HT := lh (HT.out.belowB (hB (w.heap.size) (by omega)) (by omega))
        replace TB := lh (show Blk _ _ _ _ from (hF _ (by omega)).trans TB.out)
        replace FB := lh (show Blk _ _ _ _ from (hF _ (by omega)).trans FB.out)
        replace FD := lh (show Blk _ _ _ _ from (hF _ (by omega)).trans FD.out)
        replace FV := lh (show Blk _ _ _ _ from (hF _ (by omega)).trans FV.out)
        replace BT := lh (show Blk _ _ _ _ from (hF _ (by omega)).trans BT.out)
        replace BK := lh (show Blk _ _ _ _ from (hF _ (by omega)).trans BK.out)
        replace BF := lh (show Blk _ _ _ _ from (hF _ (by omega)).trans BF.out)
        replace RP := lh (show Blk _ _ _ _ from (hF _ (by omega)).trans RP.out)
        replace RC := lh (show Blk _ _ _ _ from (hF _ (by omega)).trans RC.out)
        replace RB := lh (show Blk _ _ _ _ from (hF _ (by omega)).trans RB.out)
        replace PX := lh (show Blk _ _ _ _ from (hF _ (by omega)).trans PX.out)
        replace HB := lh (HB.out.trans (hB _ (by omega)))
        replace KB := lh (KB.out.trans (hB _ (by omega)))
        replace X := lh hA
        clear hA hF hB
        refine hK.out _ _ ⟨BT.out, PX.out, TB.out⟩ (fun _ => ?_)
        clear hK KK
        try simp only [Act.put]
        refine tkA 11 (?_) ?_ ⟨BT.out, PX.out, TB.out⟩ ?_
        rotate_left
        · (intro w1 hS; go_simp; try with_reducible rfl)
        simp only [Act.put, tS1, tS2, tS3]
        refine wpAnyH_done (by kernel_rfl) ?_ _
        have c5 := BF.out.cell 0
        have L31 : (loadVar 84 ⟨gX, 0, none⟩).run Try.prog Y3h3 = .ok (.agg s.cs) Y3h3 := run_blk_load (P := Try.prog) 84 gX _ X.out Try.underlying84 rfl SI.out
        replace L31 := lh L31
        gi_wp2_with ((with_reducible refine wpListIn_load_want (op := ⟨some 31, .load 84 (.tmp 10), _, _, _, _⟩) ?wg1 84 (.tmp 10) ?wo1 ⟨gX, 0, none⟩ ?wx1 (.agg s.cs) L31.out ?_); (case wg1 => rfl); (case wo1 => rfl); (case wx1 => rfl))
        refine ⟨trivial, ?_⟩
        refine (CallsIn.inRound l (callsIn_wide.2 (CQs.out Y3h3 FD.out FV.out))).mono ?_
        rintro e Vc ⟨rfl, hy⟩
        clear L31 c5
        replace K := lh (K.out.trans (hy.mono K.out.size))
        replace HT := lh (HT.out.below hy)
        replace TB := lh (TB.out.below hy TB.out.lt)
        replace FB := lh (FB.out.below hy FB.out.lt)
        replace FD := lh (FD.out.below hy FD.out.lt)
        replace FV := lh (FV.out.below hy FV.out.lt)
        replace BT := lh (BT.out.below hy BT.out.lt)
        replace BK := lh (BK.out.below hy BK.out.lt)
        replace BF := lh (BF.out.below hy BF.out.lt)
        replace RP := lh (RP.out.below hy RP.out.lt)
        replace RC := lh (RC.out.below hy RC.out.lt)
        replace RB := lh (RB.out.below hy RB.out.lt)
        replace PX := lh (PX.out.below hy PX.out.lt)
        replace HB := lh (HB.out.trans (hy.mono HB.out.size))
        replace KB := lh (KB.out.trans (hy.mono KB.out.size))
        replace X := lh (X.out.below hy X.out.lt)
        clear hy
        cases hq : qf s with
        | false =>
          gi_wp2
          have hr := HB.out
          exact ⟨keepsF_below KB.out, Kept.below KB.out (fun k hk => by rcases hk with rfl | rfl | rfl <;> omega), HB.out, HX0.out hq⟩
        | true =>
          have HX := lh (HX1.out hq)
          clear hq HX0 HX1 CQs CGx
          have KF := lh (keepsF_below (b := Y1h1.heap.size) KB.out)
          clear KB HB BT TB FB FD FV
          gi_wp2_with fail
          have IX0 := IPX.out
          have PY : Hid ((pcP x).size = (#[Value.int .i64 0, .int .i64 0] : Array Value).size) := rfl
          have PA : Hid ((pcP x).all (·.oneCell') = true) := pcP_all x
          have CY : Hid (s.ce.size = zCe.size) := rfl
          have CI : Hid ((Try.prog.info? 46).map (·.size) = some s.ce.size) := i46c
          have CA : Hid (s.ce.all (·.oneCell') = true) := ceC_all _ _ _ _
          have CI2 : Hid ((Try.prog.info? 46).map (·.size) = some s.ce.toList.length) := i46c
          refine wpIn_region_held_round (S := (fun w' : World => Blk w' (bp) 51 (pcP x) ∧ Blk w' (gX) 84 s.cs)) (by kernel_rfl) (by kernel_rfl) (fun ⟨_, _, h⟩ => h) ?_
          have hy : Below Vc.heap.size Vc Vc.drew := (Below.refl _ _).drew
          replace K := lh (K.out.trans (hy.mono K.out.size))
          replace HT := lh (HT.out.below hy)
          replace BK := lh (BK.out.below hy BK.out.lt)
          replace BF := lh (BF.out.below hy BF.out.lt)
          replace RP := lh (RP.out.below hy RP.out.lt)
          replace RC := lh (RC.out.below hy RC.out.lt)
          replace RB := lh (RB.out.below hy RB.out.lt)
          replace PX := lh (PX.out.below hy PX.out.lt)
          replace X := lh (X.out.below hy X.out.lt)
          replace KF := lh (KF.out.trans (keepsF_below hy))
          clear hy
          generalize Vc.drew = Y5h0 at *
          refine tkA 0 (.agg (pcP x)) ?_ ⟨PX.out, X.out⟩ ?_
          · (intro w1 hS; obtain ⟨hS0, hS1⟩ := hS; exact exec_load 51 (.tmp 9) rfl _ rfl _ (run_blk_load (P := Try.prog) 51 (bp) _ hS0 Try.underlying51 rfl IPX.out))
          simp only [Act.put, tS1, tS2, tS3]
          refine tkA 1 (?_) ?_ ⟨PX.out, X.out⟩ ?_
          rotate_left
          · (intro w1 hS; go_simp; try with_reducible rfl)
          simp only [Act.put, tS1, tS2, tS3]
          refine tkA 2 (.agg s.ce) ?_ ⟨PX.out, X.out⟩ ?_
          · (intro w1 hS; obtain ⟨hS0, hS1⟩ := hS; exact exec_load 46 (.tmp 35) rfl _ rfl _ (by have h := run_part_load (P := Try.prog) 46 37 s.ce.toList _ hS1 SP.out Try.underlying46 rfl CI2.out; rwa [Array.toArray_toList] at h))
          simp only [Act.put, tS1, tS2, tS3]
          refine tkO 3 (fun KK hK => ?_)
          rw [if_pos (by rfl)]
          refine wp_blk_store 51 (.tmp 6) (.tmp 34) rfl (pcP x) rfl rfl RP.out PY.out IPX.out PA.out ?_
          intro Y5h1 hA hF hB
          replace K := lh (K.out.trans (hB _ (by omega)))
          replace HT := lh (HT.out.belowB (hB (w.heap.size) (by omega)) (by omega))
          replace BK := lh (show Blk _ _ _ _ from (hF _ (by omega)).trans BK.out)
          replace BF := lh (show Blk _ _ _ _ from (hF _ (by omega)).trans BF.out)
          replace RC := lh (show Blk _ _ _ _ from (hF _ (by omega)).trans RC.out)
          replace RB := lh (show Blk _ _ _ _ from (hF _ (by omega)).trans RB.out)
          replace PX := lh (show Blk _ _ _ _ from (hF _ (by omega)).trans PX.out)
          replace X := lh (show Blk _ _ _ _ from (hF _ (by omega)).trans X.out)
          replace KF := lh (KF.out.trans (keepsF_store RP.out hF (hB 0 (Nat.zero_le _)).size))
          replace RP := lh hA
          clear hA hF hB
          refine hK.out _ _ ⟨PX.out, X.out⟩ (fun _ => ?_)
          clear hK KK
          try simp only [Act.put]
          refine tkO 4 (fun KK hK => ?_)
          rw [if_pos (by rfl)]
          refine wp_blk_store 46 (.tmp 7) (.tmp 36) rfl s.ce rfl rfl RC.out CY.out CI.out CA.out ?_
          intro Y5h2 hA hF hB
          replace K := lh (K.out.trans (hB _ (by omega)))
          replace HT := lh (HT.out.belowB (hB (w.heap.size) (by omega)) (by omega))
          replace BK := lh (show Blk _ _ _ _ from (hF _ (by omega)).trans BK.out)
          replace BF := lh (show Blk _ _ _ _ from (hF _ (by omega)).trans BF.out)
          replace RP := lh (show Blk _ _ _ _ from (hF _ (by omega)).trans RP.out)
          replace RB := lh (show Blk _ _ _ _ from (hF _ (by omega)).trans RB.out)
          replace PX := lh (show Blk _ _ _ _ from (hF _ (by omega)).trans PX.out)
          replace X := lh (show Blk _ _ _ _ from (hF _ (by omega)).trans X.out)
          replace KF := lh (KF.out.trans (keepsF_store RC.out hF (hB 0 (Nat.zero_le _)).size))
          replace RC := lh hA
          clear hA hF hB
          refine hK.out _ _ ⟨PX.out, X.out⟩ (fun _ => ?_)
          clear hK KK
          try simp only [Act.put]
          refine tkO 5 (fun KK hK => ?_)
          have k1 : Y5h2.cell? ⟨w.heap.size + 1 + 1 + 1 + 1 + 1, 0, none⟩ = some (.bool false) := RB.out.cell 0
          have k2 := RB.out.frozen 0
          go_simp
          replace K := lh (K.out.setCell (p := ⟨w.heap.size + 1 + 1 + 1 + 1 + 1, 0, none⟩) (by show _ ≤ w.heap.size + 1 + 1 + 1 + 1 + 1; omega) (.bool true))
          replace HT := lh (HT.out.belowB (((Below.refl (w.heap.size) Y5h2).setCell (p := ⟨w.heap.size + 1 + 1 + 1 + 1 + 1, 0, none⟩) (by show _ ≤ w.heap.size + 1 + 1 + 1 + 1 + 1; omega) (.bool true))) (by omega))
          replace BK := lh (BK.out.far (p := ⟨w.heap.size + 1 + 1 + 1 + 1 + 1, 0, none⟩) (by show _ ≠ w.heap.size + 1 + 1 + 1 + 1 + 1; omega) (.bool true))
          replace BF := lh (BF.out.far (p := ⟨w.heap.size + 1 + 1 + 1 + 1 + 1, 0, none⟩) (by show _ ≠ w.heap.size + 1 + 1 + 1 + 1 + 1; omega) (.bool true))
          replace RP := lh (RP.out.far (p := ⟨w.heap.size + 1 + 1 + 1 + 1 + 1, 0, none⟩) (by show _ ≠ w.heap.size + 1 + 1 + 1 + 1 + 1; omega) (.bool true))
          replace RC := lh (RC.out.far (p := ⟨w.heap.size + 1 + 1 + 1 + 1 + 1, 0, none⟩) (by show _ ≠ w.heap.size + 1 + 1 + 1 + 1 + 1; omega) (.bool true))
          replace PX := lh (PX.out.far (p := ⟨w.heap.size + 1 + 1 + 1 + 1 + 1, 0, none⟩) (by show _ ≠ w.heap.size + 1 + 1 + 1 + 1 + 1; omega) (.bool true))
          replace X := lh (X.out.far (p := ⟨w.heap.size + 1 + 1 + 1 + 1 + 1, 0, none⟩) (by show _ ≠ w.heap.size + 1 + 1 + 1 + 1 + 1; omega) (.bool true))
          replace KF := lh (KF.out.trans ((KeepsOthers.setCell Y5h2 ⟨w.heap.size + 1 + 1 + 1 + 1 + 1, 0, none⟩ (.bool true)).from _))
          replace RB := lh (show Blk _ _ 4 #[.bool true] from RB.out.set_ 0 (.bool true))
          clear k1 k2
          generalize Y5h2.setCell ⟨w.heap.size + 1 + 1 + 1 + 1 + 1, 0, none⟩ (.bool true) = Y5h3 at *
          refine hK.out _ _ ⟨PX.out, X.out⟩ (fun _ => ?_)
          clear hK KK
          try simp only [Act.put]
          refine wpAnyH_done (by kernel_rfl) ?_ _
          gi_wp2
          exact ⟨KF.out, rfl, (x, s), HX.out, RP.out, RC.out, RB.out, K.out⟩
  case done =>
    rintro D ys Wn hD hys ⟨hB, hnone⟩ hK
    subst hys
    subst hact
    have hRB := RB.out.lt
    have HNN := lh hnone
    have DK := lh (show Dfr Wn D from hK)
    have hKs := K.out.size
    have HBZ := lh (belowK_b (n₀ := Y1h1.heap.size) (w := Y1h1) (Nat.le_refl _))
    clear hnone hK CP CPL CG CQ hql HST PF PK
    replace K := lh (K.out.trans (hB.mono K.out.size))
    replace RP := lh (RP.out.below hB RP.out.lt)
    replace RC := lh (RC.out.below hB RC.out.lt)
    replace RB := lh (RB.out.below hB RB.out.lt)
    clear hB HT TB FB BT BK BF FD FV
    have hKn := K.out.size
    have ZP : Hid ((#[Value.int .i64 0, .int .i64 0] : Array Value).all (·.oneCell') = true) := pcP_all (0, 0)
    have IP : Hid ((Try.prog.info? 51).map (·.size) = some (#[Value.int .i64 0, .int .i64 0] : Array Value).size) := i51c
    have ZC : Hid (zCe.all (·.oneCell') = true) := ceC_all _ _ _ _
    have IC : Hid ((Try.prog.info? 46).map (·.size) = some zCe.size) := i46c
    go_wp2_with (first | ((with_reducible refine wpList_built3 (op := ⟨some 37, .build 51 #[], _, _, _, _⟩) ?bg1 51 #[] ?bo1 #[] ?bv1 #[.int .i64 0, .int .i64 0] ?bf1 ?_); (case bg1 => rfl); (case bo1 => rfl); (case bv1 => kernel_rfl); (case bf1 => exact bl51)) | ((with_reducible refine wpList_built3 (op := ⟨some 38, .build 46 #[], _, _, _, _⟩) ?bg2 46 #[] ?bo2 #[] ?bv2 zCe ?bf2 ?_); (case bg2 => rfl); (case bo2 => rfl); (case bv2 => kernel_rfl); (case bf2 => exact bl46)) | ((with_reducible refine wpList_blk_store (op := ⟨none, .store 51 (.tmp 6) (.tmp 37), _, _, _, _⟩) ?sg3 51 (.tmp 6) (.tmp 37) ?so3 (w.heap.size + 1 + 1 + 1) #[.int .i64 0, .int .i64 0] ?sx3 ?sy3 RP.out zz51.out IP.out ZP.out ?_); (case sg3 => rfl); (case so3 => rfl); (case sx3 => rfl); (case sy3 => rfl)))
    intro V201 hA hF hB
    replace K := lh (K.out.trans (hB _ (by omega)))
    replace RC := lh (show Blk _ _ _ _ from (hF _ (by omega)).trans RC.out)
    replace RB := lh (show Blk _ _ _ _ from (hF _ (by omega)).trans RB.out)
    replace DK := lh (show Dfr _ _ from (hF _ (by omega)).trans DK.out)
    replace RP := lh hA
    clear hA hF hB
    go_wp2_with (((with_reducible refine wpList_blk_store (op := ⟨none, .store 46 (.tmp 7) (.tmp 38), _, _, _, _⟩) ?sg4 46 (.tmp 7) (.tmp 38) ?so4 (w.heap.size + 1 + 1 + 1 + 1) zCe ?sx4 ?sy4 RC.out zz46.out IC.out ZC.out ?_); (case sg4 => rfl); (case so4 => rfl); (case sx4 => rfl); (case sy4 => rfl)))
    intro V202 hA hF hB
    replace K := lh (K.out.trans (hB _ (by omega)))
    replace RP := lh (show Blk _ _ _ _ from (hF _ (by omega)).trans RP.out)
    replace RB := lh (show Blk _ _ _ _ from (hF _ (by omega)).trans RB.out)
    replace DK := lh (show Dfr _ _ from (hF _ (by omega)).trans DK.out)
    replace RC := lh hA
    clear hA hF hB
    have k1 : V202.cell? ⟨w.heap.size + 1 + 1 + 1 + 1 + 1, 0, none⟩ = some (.bool false) := RB.out.cell 0
    have k2 := RB.out.frozen 0
    have R2 := lh (show Blk _ _ 4 #[.bool false] from RB.out.set_ 0 (.bool false))
    have P2 := lh (RP.out.far (p := ⟨w.heap.size + 1 + 1 + 1 + 1 + 1, 0, none⟩) (by show _ ≠ w.heap.size + 1 + 1 + 1 + 1 + 1; omega) (.bool false))
    have C2 := lh (RC.out.far (p := ⟨w.heap.size + 1 + 1 + 1 + 1 + 1, 0, none⟩) (by show _ ≠ w.heap.size + 1 + 1 + 1 + 1 + 1; omega) (.bool false))
    have K2 := lh (K.out.setCell (p := ⟨w.heap.size + 1 + 1 + 1 + 1 + 1, 0, none⟩) (by show w.heap.size ≤ w.heap.size + 1 + 1 + 1 + 1 + 1; omega) (.bool false))
    have D2 : Hid (Dfr (V202.setCell ⟨w.heap.size + 1 + 1 + 1 + 1 + 1, 0, none⟩ (.bool false)) D) := (Below.heap_setCell _ _ _ D (by show D ≠ w.heap.size + 1 + 1 + 1 + 1 + 1; omega)).trans DK.out
    clear DK RB K RP RC
    have DK := D2
    have RB := R2
    have K := K2
    have RP := P2
    have RC := C2
    clear D2 R2 K2 P2 C2
    go_wp2
    refine ⟨by simp, .inl ⟨_, _, rfl, run_takeDeferred DK.out, ?_⟩⟩
    have hbz := HBZ.out _ D _ (.deferred none) hD DK.out rfl rfl
    have RPz := RP.out.below hbz (by omega)
    have RCz := RC.out.below hbz (by omega)
    have RBz := RB.out.below hbz (by omega)
    have Kz := K.out.trans (hbz.mono hKs)
    exact ⟨_, results_cell3 6 7 8 51 46 4 _ _ _ _ _ _ rfl rfl rfl rfl (run_blk_load (P := Try.prog) 51 _ _ RPz Try.underlying51 rfl IP.out) (run_blk_load (P := Try.prog) 46 _ _ RCz Try.underlying46 rfl IC.out) (load4 RBz), by rw [HNN.out]; rfl, Kz⟩
  case stop =>
    rintro D cd l Wn hD ⟨kk, hkk, hl⟩ ⟨rfl, o, ho, hP, hC, hBb, hKk⟩ hK
    subst hact
    subst hl
    have HNN := lh (fst1_take f qf L kk o ho)
    have hRB := RB.out.lt
    have hKs := K.out.size
    have DK := lh (show Dfr Wn D from hK)
    have HBZ := lh (belowK_b (n₀ := Y1h1.heap.size) (w := Y1h1) (Nat.le_refl _))
    have K := lh hKk
    have RP := lh hP
    have RC := lh hC
    have RB := lh hBb
    clear ho hK CP CPL CG CQ hql HST PF PK hKk hP hC hBb HT TB FB BT BK BF FD FV
    gi_wp2
    refine ⟨by simp, .inl ⟨_, _, rfl, run_takeDeferred DK.out, ?_⟩⟩
    have hbz := HBZ.out Wn D _ (.deferred none) hD DK.out rfl rfl
    have RPz := RP.out.below hbz (by omega)
    have RCz := RC.out.below hbz (by omega)
    have RBz := RB.out.below hbz (by omega)
    have Kz := K.out.trans (hbz.mono hKs)
    exact ⟨_, results_cell3 6 7 8 51 46 4 _ _ _ _ _ _ rfl rfl rfl rfl (run_blk_load (P := Try.prog) 51 _ _ RPz Try.underlying51 rfl i51c) (run_blk_load (P := Try.prog) 46 _ _ RCz Try.underlying46 rfl i46c) (load4 RBz), by rw [HNN.out]; rfl, Kz⟩
set_option maxRecDepth 100000 in
set_option maxHeartbeats 4000000 in
theorem firstF_any (tn fn B : Nat) (cf : Cf) (c : Nat → Option Se) (hc : cf.Fit) (hok : okC cf = true) (k : Fl) (hk : k.Fit) (k2 : Fl) (hk2 : k2.Fit) (pk : Nat) (w : World) (h : TS tn fn B cf c w) (hb : Blk w pk 42 k2.cs) :
    Calls Try.prog 33 #[.pointer (some ⟨tn, 0, none⟩), .agg k.cs, .func (.func 44) #[] #[.pointer (some ⟨pk, 0, none⟩)]] w fun e w' => e = .returned (.tuple #[.agg (rP (fst1 (lkN cf.st.toNat cf.sz.toNat c) (fun s => decide (s.k = k2)) (plL cf k))), .agg (rC (fst1 (lkN cf.st.toNat cf.sz.toNat c) (fun s => decide (s.k = k2)) (plL cf k))), .bool (fst1 (lkN cf.st.toNat cf.sz.toNat c) (fun s => decide (s.k = k2)) (plL cf k)).isSome]) ∧ Below w.heap.size w w' := by
  have hl4 := plL_le cf k hok
  have hi42 := fl_ik k hk
  have CP := lh (fun s W (h : Blk W fn 110 (famC cf)) => place_any cf hc hok k hk fn s W h)
  have CG : Hid (∀ (x : Pl) (W : World), GdT B cf.st.toNat cf.sz.toNat c W → Calls Try.prog 36 #[.pointer (some ⟨B + 1, 0, none⟩), .agg (pcP x)] W fun e w' => e = .returned (.tuple #[.agg (oC (lkN cf.st.toNat cf.sz.toNat c x)), .bool (lkN cf.st.toNat cf.sz.toNat c x).isSome]) ∧ Below W.heap.size W w') := fun x W h => getT_any B cf.st.toNat cf.sz.toNat c (x.1 : Int) (x.2 : Int) W h
  have CQ := lh (fun s W (h1 : Blk W pk 42 k2.cs) => findF_any s k2 hk2 pk W h1)
  have CPL := lh (fun W => places_any (some ⟨fn, 0, none⟩) k.cs W)
  have hql := eql_fnP
  have KI2 := fl_ik k2 hk2
  obtain ⟨kc2, hkc2⟩ : ∃ x, x = k2.cs := ⟨_, rfl⟩
  rw [← hkc2] at hb CQ KI2
  clear hkc2
  obtain ⟨qf, hqf⟩ : ∃ q : Se → Bool, q = (fun s => decide (s.k = k2)) := ⟨_, rfl⟩
  have hqf2 : ∀ s : Se, decide (s.k = k2) = qf s := fun s => by rw [hqf]
  simp only [hqf2] at CQ
  rw [← hqf]
  clear hqf hqf2
  obtain ⟨f, hf⟩ : ∃ f, f = lkN cf.st.toNat cf.sz.toNat c := ⟨_, rfl⟩
  rw [← hf] at CG ⊢
  clear hf
  obtain ⟨L, hL⟩ : ∃ L, L = plL cf k := ⟨_, rfl⟩
  rw [← hL] at hl4 CP ⊢
  clear hL
  obtain ⟨T0', T1', -⟩ := tbC_get fn B cf.ev
  have T0 := lh T0'
  have T1 := lh T1'
  have TB := lh h.T
  have HT := lh h
  have htw := h.lt
  have hft : fn < tn := by have := h.hF; have := h.hT; omega
  have FK := lh (show Blk w pk 42 kc2 from hb)
  obtain ⟨kc, hkc⟩ : ∃ x, x = k.cs := ⟨_, rfl⟩
  rw [← hkc] at CP CPL hi42 ⊢
  have IK := lh hi42
  obtain ⟨tc, htc⟩ : ∃ x, x = tbC fn B cf.ev := ⟨_, rfl⟩
  rw [← htc] at T0 T1 TB
  have FB := lh h.F
  clear T0' T1' h hkc hk htc hb
  obtain ⟨fc, hfc⟩ : ∃ x, x = famC cf := ⟨_, rfl⟩
  rw [← hfc] at FB CP
  clear hfc
  have K := lh (Below.refl w.heap.size w)
  have hz46 := zero46
  refine (callsIn_wide (n := 3)).1 ?_
  refine callsIn_of_wp_marks Try.func33 rfl trivial ?_ rfl
  refine wpIn_wide.2 ?_
  simp only [Try.ntmps33, List.size_toArray, List.length_cons, List.length_nil, Nat.reduceAdd, Nat.reduceSub, Array.replicate_succ, Array.replicate_zero, List.push_toArray, List.append_toArray, List.nil_append, List.cons_append]
  have hal := (Below.refl w.heap.size w).alloc (Nat.le_refl _) (.cells #[.pointer (some ⟨tn, 0, none⟩)] 31)
  replace K := lh (K.out.trans (hal.mono K.out.size))
  replace HT := lh (HT.out.below hal)
  replace TB := lh (TB.out.below hal TB.out.lt)
  replace FB := lh (FB.out.below hal FB.out.lt)
  replace FK := lh (FK.out.below hal FK.out.lt)
  have BT := lh (Blk.new w 31 #[.pointer (some ⟨tn, 0, none⟩)])
  clear hal
  have hal := (Below.refl (w.alloc (.cells #[.pointer (some ⟨tn, 0, none⟩)] 31)).heap.size (w.alloc (.cells #[.pointer (some ⟨tn, 0, none⟩)] 31))).alloc (Nat.le_refl _) (.cells kc 42)
  replace K := lh (K.out.trans (hal.mono K.out.size))
  replace HT := lh (HT.out.below hal)
  replace TB := lh (TB.out.below hal TB.out.lt)
  replace FB := lh (FB.out.below hal FB.out.lt)
  replace FK := lh (FK.out.below hal FK.out.lt)
  replace BT := lh (BT.out.below hal BT.out.lt)
  have BKq := Blk.new (w.alloc (.cells #[.pointer (some ⟨tn, 0, none⟩)] 31)) 42 kc
  simp only [World.size_alloc] at BKq
  have BK := lh BKq
  clear BKq
  clear hal
  have hal := (Below.refl ((w.alloc (.cells #[.pointer (some ⟨tn, 0, none⟩)] 31)).alloc (.cells kc 42)).heap.size ((w.alloc (.cells #[.pointer (some ⟨tn, 0, none⟩)] 31)).alloc (.cells kc 42))).alloc (Nat.le_refl _) (.cells #[.func (.func 44) #[] #[.pointer (some ⟨pk, 0, none⟩)]] 89)
  replace K := lh (K.out.trans (hal.mono K.out.size))
  replace HT := lh (HT.out.below hal)
  replace TB := lh (TB.out.below hal TB.out.lt)
  replace FB := lh (FB.out.below hal FB.out.lt)
  replace FK := lh (FK.out.below hal FK.out.lt)
  replace BT := lh (BT.out.below hal BT.out.lt)
  replace BK := lh (BK.out.below hal BK.out.lt)
  have BFq := Blk.new ((w.alloc (.cells #[.pointer (some ⟨tn, 0, none⟩)] 31)).alloc (.cells kc 42)) 89 #[.func (.func 44) #[] #[.pointer (some ⟨pk, 0, none⟩)]]
  simp only [World.size_alloc] at BFq
  have BF := lh BFq
  clear BFq
  clear hal
  have hal := (Below.refl (((w.alloc (.cells #[.pointer (some ⟨tn, 0, none⟩)] 31)).alloc (.cells kc 42)).alloc (.cells #[.func (.func 44) #[] #[.pointer (some ⟨pk, 0, none⟩)]] 89)).heap.size (((w.alloc (.cells #[.pointer (some ⟨tn, 0, none⟩)] 31)).alloc (.cells kc 42)).alloc (.cells #[.func (.func 44) #[] #[.pointer (some ⟨pk, 0, none⟩)]] 89))).alloc (Nat.le_refl _) (.cells #[.int .i64 0, .int .i64 0] 51)
  replace K := lh (K.out.trans (hal.mono K.out.size))
  replace HT := lh (HT.out.below hal)
  replace TB := lh (TB.out.below hal TB.out.lt)
  replace FB := lh (FB.out.below hal FB.out.lt)
  replace FK := lh (FK.out.below hal FK.out.lt)
  replace BT := lh (BT.out.below hal BT.out.lt)
  replace BK := lh (BK.out.below hal BK.out.lt)
  replace BF := lh (BF.out.below hal BF.out.lt)
  have RPq := Blk.new (((w.alloc (.cells #[.pointer (some ⟨tn, 0, none⟩)] 31)).alloc (.cells kc 42)).alloc (.cells #[.func (.func 44) #[] #[.pointer (some ⟨pk, 0, none⟩)]] 89)) 51 #[.int .i64 0, .int .i64 0]
  simp only [World.size_alloc] at RPq
  have RP := lh RPq
  clear RPq
  clear hal
  have hal := (Below.refl ((((w.alloc (.cells #[.pointer (some ⟨tn, 0, none⟩)] 31)).alloc (.cells kc 42)).alloc (.cells #[.func (.func 44) #[] #[.pointer (some ⟨pk, 0, none⟩)]] 89)).alloc (.cells #[.int .i64 0, .int .i64 0] 51)).heap.size ((((w.alloc (.cells #[.pointer (some ⟨tn, 0, none⟩)] 31)).alloc (.cells kc 42)).alloc (.cells #[.func (.func 44) #[] #[.pointer (some ⟨pk, 0, none⟩)]] 89)).alloc (.cells #[.int .i64 0, .int .i64 0] 51))).alloc (Nat.le_refl _) (.cells zCe 46)
  replace K := lh (K.out.trans (hal.mono K.out.size))
  replace HT := lh (HT.out.below hal)
  replace TB := lh (TB.out.below hal TB.out.lt)
  replace FB := lh (FB.out.below hal FB.out.lt)
  replace FK := lh (FK.out.below hal FK.out.lt)
  replace BT := lh (BT.out.below hal BT.out.lt)
  replace BK := lh (BK.out.below hal BK.out.lt)
  replace BF := lh (BF.out.below hal BF.out.lt)
  replace RP := lh (RP.out.below hal RP.out.lt)
  have RCq := Blk.new ((((w.alloc (.cells #[.pointer (some ⟨tn, 0, none⟩)] 31)).alloc (.cells kc 42)).alloc (.cells #[.func (.func 44) #[] #[.pointer (some ⟨pk, 0, none⟩)]] 89)).alloc (.cells #[.int .i64 0, .int .i64 0] 51)) 46 zCe
  simp only [World.size_alloc] at RCq
  have RC := lh RCq
  clear RCq
  clear hal
  have hal := (Below.refl (((((w.alloc (.cells #[.pointer (some ⟨tn, 0, none⟩)] 31)).alloc (.cells kc 42)).alloc (.cells #[.func (.func 44) #[] #[.pointer (some ⟨pk, 0, none⟩)]] 89)).alloc (.cells #[.int .i64 0, .int .i64 0] 51)).alloc (.cells zCe 46)).heap.size (((((w.alloc (.cells #[.pointer (some ⟨tn, 0, none⟩)] 31)).alloc (.cells kc 42)).alloc (.cells #[.func (.func 44) #[] #[.pointer (some ⟨pk, 0, none⟩)]] 89)).alloc (.cells #[.int .i64 0, .int .i64 0] 51)).alloc (.cells zCe 46))).alloc (Nat.le_refl _) (.cells #[.bool false] 4)
  replace K := lh (K.out.trans (hal.mono K.out.size))
  replace HT := lh (HT.out.below hal)
  replace TB := lh (TB.out.below hal TB.out.lt)
  replace FB := lh (FB.out.below hal FB.out.lt)
  replace FK := lh (FK.out.below hal FK.out.lt)
  replace BT := lh (BT.out.below hal BT.out.lt)
  replace BK := lh (BK.out.below hal BK.out.lt)
  replace BF := lh (BF.out.below hal BF.out.lt)
  replace RP := lh (RP.out.below hal RP.out.lt)
  replace RC := lh (RC.out.below hal RC.out.lt)
  have RBq := Blk.new (((((w.alloc (.cells #[.pointer (some ⟨tn, 0, none⟩)] 31)).alloc (.cells kc 42)).alloc (.cells #[.func (.func 44) #[] #[.pointer (some ⟨pk, 0, none⟩)]] 89)).alloc (.cells #[.int .i64 0, .int .i64 0] 51)).alloc (.cells zCe 46)) 4 #[.bool false]
  simp only [World.size_alloc] at RBq
  have RB := lh RBq
  clear RBq
  clear hal
  go_upto_region 1 with fail
  have hzV1 : Hid (((((((w.alloc (.cells #[.pointer (some ⟨tn, 0, none⟩)] 31)).alloc (.cells kc 42)).alloc (.cells #[.func (.func 44) #[] #[.pointer (some ⟨pk, 0, none⟩)]] 89)).alloc (.cells #[.int .i64 0, .int .i64 0] 51)).alloc (.cells zCe 46)).alloc (.cells #[.bool false] 4)).heap.size = w.heap.size + 1 + 1 + 1 + 1 + 1 + 1) := by show _ = _; simp only [World.size_alloc]
  generalize ((((((w.alloc (.cells #[.pointer (some ⟨tn, 0, none⟩)] 31)).alloc (.cells kc 42)).alloc (.cells #[.func (.func 44) #[] #[.pointer (some ⟨pk, 0, none⟩)]] 89)).alloc (.cells #[.int .i64 0, .int .i64 0] 51)).alloc (.cells zCe 46)).alloc (.cells #[.bool false] 4)) = V1 at *
  clear hz46
  refine wp_noP ?_
  refine wp_region_held (S := (fun w' : World => Blk w' (w.heap.size) 31 #[.pointer (some ⟨tn, 0, none⟩)] ∧ Blk w' (w.heap.size + 1) 42 kc ∧ Blk w' (tn) 80 tc)) (by kernel_rfl) ?_
  change wpAnyH _ _ _ _ _ _ _ _ V1.drew
  have hy : Below V1.heap.size V1 V1.drew := (Below.refl _ _).drew
  replace K := lh (K.out.trans (hy.mono K.out.size))
  replace HT := lh (HT.out.below hy)
  replace TB := lh (TB.out.below hy TB.out.lt)
  replace FB := lh (FB.out.below hy FB.out.lt)
  replace FK := lh (FK.out.below hy FK.out.lt)
  replace BT := lh (BT.out.below hy BT.out.lt)
  replace BK := lh (BK.out.below hy BK.out.lt)
  replace BF := lh (BF.out.below hy BF.out.lt)
  replace RP := lh (RP.out.below hy RP.out.lt)
  replace RC := lh (RC.out.below hy RC.out.lt)
  replace RB := lh (RB.out.below hy RB.out.lt)
  clear hy
  generalize V1.drew = Y1h0 at *
  refine tkA 0 (?_) ?_ ⟨BT.out, BK.out, TB.out⟩ ?_
  rotate_left
  · (intro w1 hS; obtain ⟨hS0, hS1, hS2⟩ := hS; have q := hS0.cell 0; go_simp; try with_reducible rfl)
  simp only [Act.put, tS1, tS2, tS3]
  refine tkA 1 (?_) ?_ ⟨BT.out, BK.out, TB.out⟩ ?_
  rotate_left
  · (intro w1 hS; go_simp; try with_reducible rfl)
  simp only [Act.put, tS1, tS2, tS3]
  refine tkA 2 (?_) ?_ ⟨BT.out, BK.out, TB.out⟩ ?_
  rotate_left
  · (intro w1 hS; go_simp; try with_reducible rfl)
  simp only [Act.put, tS1, tS2, tS3]
  refine tkA 3 (?_) ?_ ⟨BT.out, BK.out, TB.out⟩ ?_
  rotate_left
  · (intro w1 hS; obtain ⟨hS0, hS1, hS2⟩ := hS; have q := (hS2.cell 0).trans T0.out; go_simp; try with_reducible rfl)
  simp only [Act.put, tS1, tS2, tS3]
  refine tkA 4 (.agg kc) ?_ ⟨BT.out, BK.out, TB.out⟩ ?_
  · (intro w1 hS; obtain ⟨hS0, hS1, hS2⟩ := hS; exact exec_load 42 (.tmp 4) rfl _ rfl _ (run_blk_load (P := Try.prog) 42 (w.heap.size + 1) _ hS1 Try.underlying42 rfl IK.out))
  simp only [Act.put, tS1, tS2, tS3]
  obtain ⟨gI, hgI⟩ : ∃ g, g = Y1h0.heap.size := ⟨_, rfl⟩
  have hI0 : w.heap.size + 1 + 1 + 1 + 1 + 1 < gI := by rw [hgI]; exact RB.out.lt
  refine tkO 5 (fun KK hK => ?_)
  go_simp
  refine (CPL.out Y1h0).mono ?_
  rintro e Y1h1 ⟨rfl, h1, h2, hy⟩
  replace K := lh (K.out.trans (hy.mono K.out.size))
  replace HT := lh (HT.out.below hy)
  replace TB := lh (TB.out.below hy TB.out.lt)
  replace FB := lh (FB.out.below hy FB.out.lt)
  replace FK := lh (FK.out.below hy FK.out.lt)
  replace BT := lh (BT.out.below hy BT.out.lt)
  replace BK := lh (BK.out.below hy BK.out.lt)
  replace BF := lh (BF.out.below hy BF.out.lt)
  replace RP := lh (RP.out.below hy RP.out.lt)
  replace RC := lh (RC.out.below hy RC.out.lt)
  replace RB := lh (RB.out.below hy RB.out.lt)
  clear hy
  rw [← hgI] at h1 h2 ⊢
  have PF := lh h1
  have PK := lh h2
  clear h1 h2 hgI
  refine hK.out _ _ ⟨BT.out, BK.out, TB.out⟩ (fun _ => ?_)
  clear hK KK
  try simp only [Act.put, tS1, tS2, tS3]
  refine wpAnyH_done (by kernel_rfl) ?_ _
  simp only [noP]
  go_wp2_with fail
  refine (wpIn_wide (n := 3)).1 ?_
  gi_wp2_with fail
  have hI1 := PK.out.lt
  have HST := lh (itp_stops 2 (by omega) gI (gI + 1) fn L kc fc hi42 hl4 Y1h1 CP.out PF.out PK.out FB.out)
  refine name_act fun act hact => ?_
  refine wpIn_rangeFunc_ownH (a := act) rfl (by omega) (gf := 62) (lb := #[.pointer (some ⟨gI, 0, none⟩), .pointer (some ⟨gI + 1, 0, none⟩)]) (by rw [hact]; rfl) trivial (enters_of Try.func62 (by kernel_rfl) rfl)
    HST.out (fun h k => Kept.trans h k) (kept_b (fun k hk => by rcases hk with rfl | rfl | rfl <;> omega)) (Below.refl _ _) (fun _ => rfl)
    (fun pre W' => Below Y1h1.heap.size Y1h1 W' ∧ fst1 f qf pre = none)
    (fun cd pre W' => cd = .ret ∧ ∃ o, fst1 f qf pre = some o ∧ Blk W' (w.heap.size + 1 + 1 + 1) 51 (pcP o.1) ∧ Blk W' (w.heap.size + 1 + 1 + 1 + 1) 46 o.2.ce ∧ Blk W' (w.heap.size + 1 + 1 + 1 + 1 + 1) 4 #[.bool true] ∧ Below w.heap.size w W')
    (OwnFrom.and (ownFrom_below (Nat.le_refl _) (Nat.le_refl _)) (ownFrom_pure _ (fun pre => fst1 f qf pre = none)))
    (fun cd s A' B' row hs hg hr => by
      obtain ⟨e1, o, e2, e3, e4, e5, e6⟩ := hs
      exact ⟨e1, o, e2, blk_own _ _ _ _ () A' B' row e3 hg hr, blk_own _ _ _ _ () A' B' row e4 hg hr, blk_own _ _ _ _ () A' B' row e5 hg hr, ownFrom_below (Nat.le_refl _) K.out.size () A' B' row e6 hg hr⟩)
    ⟨Below.refl _ _, rfl⟩
    (fun x a' W' => ∃ bp, Y1h1.heap.size ≤ bp ∧ Blk W' bp 51 (pcP x) ∧ a' = { tmps := (act.tmps.setIfInBounds 18 (.agg (pcP x))).setIfInBounds 9 (.pointer (some ⟨bp, 0, none⟩)), defers := [] })
    (fun x a' _ A' B' row hs hg hr => by
      obtain ⟨bp, e1, e2, e3⟩ := hs
      exact ⟨bp, e1, blk_own _ _ bp _ () A' B' row e2 hg hr, e3⟩)
    ?assign ?body ?done ?stop
  case assign =>
    intro l pre x W' KK hI hK
    have hsz := hI.1.size
    subst hact
    clear CP CG CQ CPL hql HST HT TB FB
    unfold pcP at hK ⊢
    gi_wp2
    exact hK _ _ ((KeepsOthers.alloc _ _).from _) (Kept.below ((Below.refl _ W').alloc (Nat.le_refl _) _) (fun k hk => by rcases hk with rfl | rfl | rfl <;> omega)) ⟨hI.1.alloc hsz _, hI.2⟩ ⟨W'.heap.size, hsz, Blk.new _ _ _, rfl⟩
  case body =>
    rintro l pre x a' W' hwl hrec ⟨hB, hnone⟩ ⟨bp, hbp, hbb, rfl⟩ hlt
    subst hact
    simp only [tS1, tS2, tS3]
    have HNN := lh hnone
    have PX := lh hbb
    have HB := lh hB
    have HBP := lh hbp
    clear hnone hbb CP CPL hql HST hrec hwl hlt hi42 hl4 PF PK
    replace K := lh (K.out.trans (hB.mono K.out.size))
    replace HT := lh (HT.out.below hB)
    replace TB := lh (TB.out.below hB TB.out.lt)
    replace FB := lh (FB.out.below hB FB.out.lt)
    replace FK := lh (FK.out.below hB FK.out.lt)
    replace BT := lh (BT.out.below hB BT.out.lt)
    replace BK := lh (BK.out.below hB BK.out.lt)
    replace BF := lh (BF.out.below hB BF.out.lt)
    replace RP := lh (RP.out.below hB RP.out.lt)
    replace RC := lh (RC.out.below hB RC.out.lt)
    replace RB := lh (RB.out.below hB RB.out.lt)
    clear hB
    have hRB := RB.out.lt
    have hPX := PX.out.lt
    have hTn := TB.out.lt
    have hW0 := HB.out.size
    have hKs := K.out.size
    have KB := lh (Below.refl W'.heap.size W')
    have IPX : Hid ((Try.prog.info? 51).map (·.size) = some (pcP x).size) := i51c
    have hFK := FK.out.lt
    have CGx := lh (CG.out x)
    cases hx : f x with
    | none =>
      rw [hx] at CGx
      have HX := lh (fst1_one_none f qf pre x HNN.out hx)
      have ZI : Hid ((Try.prog.info? 84).map (·.size) = some zSe.size) := by show _ = _; rw [zSe_size]; exact i84
      have ZA : Hid (zSe.all (·.oneCell') = true) := oC_all none
      change Hid (∀ W, _ → Calls _ _ _ _ fun e w' => e = .returned (.tuple #[.agg zSe, .bool false]) ∧ _) at CGx
      clear hx CG CQ
      gi_wp2_with fail
      refine wpIn_region_held_round (S := (fun w' : World => Blk w' (w.heap.size) 31 #[.pointer (some ⟨tn, 0, none⟩)] ∧ Blk w' (bp) 51 (pcP x) ∧ Blk w' (tn) 80 tc)) (by kernel_rfl) (by kernel_rfl) (fun ⟨_, _, h⟩ => h) ?_
      have hy : Below W'.heap.size W' W'.drew := (Below.refl _ _).drew
      replace K := lh (K.out.trans (hy.mono K.out.size))
      replace HT := lh (HT.out.below hy)
      replace TB := lh (TB.out.below hy TB.out.lt)
      replace FB := lh (FB.out.below hy FB.out.lt)
      replace FK := lh (FK.out.below hy FK.out.lt)
      replace BT := lh (BT.out.below hy BT.out.lt)
      replace BK := lh (BK.out.below hy BK.out.lt)
      replace BF := lh (BF.out.below hy BF.out.lt)
      replace RP := lh (RP.out.below hy RP.out.lt)
      replace RC := lh (RC.out.below hy RC.out.lt)
      replace RB := lh (RB.out.below hy RB.out.lt)
      replace PX := lh (PX.out.below hy PX.out.lt)
      replace HB := lh (HB.out.trans (hy.mono HB.out.size))
      replace KB := lh (KB.out.trans (hy.mono KB.out.size))
      clear hy
      generalize W'.drew = Y3h0 at *
      refine tkA 0 (?_) ?_ ⟨BT.out, PX.out, TB.out⟩ ?_
      rotate_left
      · (intro w1 hS; obtain ⟨hS0, hS1, hS2⟩ := hS; have q := hS0.cell 0; go_simp; try with_reducible rfl)
      simp only [Act.put, tS1, tS2, tS3]
      refine tkA 1 (?_) ?_ ⟨BT.out, PX.out, TB.out⟩ ?_
      rotate_left
      · (intro w1 hS; go_simp; try with_reducible rfl)
      simp only [Act.put, tS1, tS2, tS3]
      refine tkA 2 (?_) ?_ ⟨BT.out, PX.out, TB.out⟩ ?_
      rotate_left
      · (intro w1 hS; go_simp; try with_reducible rfl)
      simp only [Act.put, tS1, tS2, tS3]
      refine tkA 3 (?_) ?_ ⟨BT.out, PX.out, TB.out⟩ ?_
      rotate_left
      · (intro w1 hS; obtain ⟨hS0, hS1, hS2⟩ := hS; have q := (hS2.cell 1).trans T1.out; go_simp; try with_reducible rfl)
      simp only [Act.put, tS1, tS2, tS3]
      refine tkA 4 (.agg (pcP x)) ?_ ⟨BT.out, PX.out, TB.out⟩ ?_
      · (intro w1 hS; obtain ⟨hS0, hS1, hS2⟩ := hS; exact exec_load 51 (.tmp 9) rfl _ rfl _ (run_blk_load (P := Try.prog) 51 (bp) _ hS1 Try.underlying51 rfl IPX.out))
      simp only [Act.put, tS1, tS2, tS3]
      refine tkB 5 9 (fun KK hK => ?_) (fun KK hK => ?_)
      · skip
        go_simp
        refine (CGx.out Y3h0 HT.out.G).mono ?_
        rintro e Y3h1 ⟨rfl, hy⟩
        replace K := lh (K.out.trans (hy.mono K.out.size))
        replace HT := lh (HT.out.below hy)
        replace TB := lh (TB.out.below hy TB.out.lt)
        replace FB := lh (FB.out.below hy FB.out.lt)
        replace FK := lh (FK.out.below hy FK.out.lt)
        replace BT := lh (BT.out.below hy BT.out.lt)
        replace BK := lh (BK.out.below hy BK.out.lt)
        replace BF := lh (BF.out.below hy BF.out.lt)
        replace RP := lh (RP.out.below hy RP.out.lt)
        replace RC := lh (RC.out.below hy RC.out.lt)
        replace RB := lh (RB.out.below hy RB.out.lt)
        replace PX := lh (PX.out.below hy PX.out.lt)
        replace HB := lh (HB.out.trans (hy.mono HB.out.size))
        replace KB := lh (KB.out.trans (hy.mono KB.out.size))
        clear hy
        refine hK.out _ _ ⟨BT.out, PX.out, TB.out⟩ (fun _ => ?_)
        clear hK KK
        try simp only [Act.put, tS1, tS2, tS3]
        refine tkA 6 (?_) ?_ ⟨BT.out, PX.out, TB.out⟩ ?_
        rotate_left
        · (intro w1 hS; go_simp; try with_reducible rfl)
        simp only [Act.put, tS1, tS2, tS3]
        refine tkA 7 (?_) ?_ ⟨BT.out, PX.out, TB.out⟩ ?_
        rotate_left
        · (intro w1 hS; go_simp; try with_reducible rfl)
        simp only [Act.put, tS1, tS2, tS3]
        refine tkA 8 (?_) ?_ ⟨BT.out, PX.out, TB.out⟩ ?_
        rotate_left
        · (intro w1 hS; go_simp; try with_reducible rfl)
        simp only [Act.put, tS1, tS2, tS3]
        have hz84 := zero84
        refine tkO 9 (fun KK hK => ?_)
        go_simp
        have pb := Blk.new Y3h1 84 zSe
        have hy := (Below.refl Y3h1.heap.size Y3h1).alloc (Nat.le_refl _) (.cells zSe 84)
        obtain ⟨gX, hgX⟩ : ∃ g, g = Y3h1.heap.size := ⟨_, rfl⟩
        have hg0X : W'.heap.size ≤ gX := by rw [hgX]; exact KB.out.size
        replace K := lh (K.out.trans (hy.mono K.out.size))
        replace HT := lh (HT.out.below hy)
        replace TB := lh (TB.out.below hy TB.out.lt)
        replace FB := lh (FB.out.below hy FB.out.lt)
        replace FK := lh (FK.out.below hy FK.out.lt)
        replace BT := lh (BT.out.below hy BT.out.lt)
        replace BK := lh (BK.out.below hy BK.out.lt)
        replace BF := lh (BF.out.below hy BF.out.lt)
        replace RP := lh (RP.out.below hy RP.out.lt)
        replace RC := lh (RC.out.below hy RC.out.lt)
        replace RB := lh (RB.out.below hy RB.out.lt)
        replace PX := lh (PX.out.below hy PX.out.lt)
        replace HB := lh (HB.out.trans (hy.mono HB.out.size))
        replace KB := lh (KB.out.trans (hy.mono KB.out.size))
        rw [← hgX] at pb ⊢
        have X := lh pb
        clear pb hy hgX
        generalize Y3h1.alloc (.cells zSe 84) = Y3h2 at *
        refine hK.out _ _ ⟨BT.out, PX.out, TB.out⟩ (fun _ => ?_)
        clear hK KK
        try simp only [Act.put, tS1, tS2, tS3]
        clear hz84
        refine tkO 10 (fun KK hK => ?_)
        rw [if_pos (by rfl)]
        refine wp_blk_store 84 (.tmp 10) (.tmp 26) rfl zSe rfl rfl X.out zz84 ZI.out ZA.out ?_
        intro Y3h3 hA hF hB
        replace K := lh (K.out.trans (hB _ (by omega)))
        replace HT := lh (HT.out.belowB (hB (w.heap.size) (by omega)) (by omega))
        replace TB := lh (show Blk _ _ _ _ from (hF _ (by omega)).trans TB.out)
        replace FB := lh (show Blk _ _ _ _ from (hF _ (by omega)).trans FB.out)
        replace FK := lh (show Blk _ _ _ _ from (hF _ (by omega)).trans FK.out)
        replace BT := lh (show Blk _ _ _ _ from (hF _ (by omega)).trans BT.out)
        replace BK := lh (show Blk _ _ _ _ from (hF _ (by omega)).trans BK.out)
        replace BF := lh (show Blk _ _ _ _ from (hF _ (by omega)).trans BF.out)
        replace RP := lh (show Blk _ _ _ _ from (hF _ (by omega)).trans RP.out)
        replace RC := lh (show Blk _ _ _ _ from (hF _ (by omega)).trans RC.out)
        replace RB := lh (show Blk _ _ _ _ from (hF _ (by omega)).trans RB.out)
        replace PX := lh (show Blk _ _ _ _ from (hF _ (by omega)).trans PX.out)
        replace HB := lh (HB.out.trans (hB _ (by omega)))
        replace KB := lh (KB.out.trans (hB _ (by omega)))
        replace X := lh hA
        clear hA hF hB
        refine hK.out _ _ ⟨BT.out, PX.out, TB.out⟩ (fun _ => ?_)
        clear hK KK
        try simp only [Act.put]
        refine tkA 11 (?_) ?_ ⟨BT.out, PX.out, TB.out⟩ ?_
        rotate_left
        · (intro w1 hS; go_simp; try with_reducible rfl)
        simp only [Act.put, tS1, tS2, tS3]
        refine wpAnyH_done (by kernel_rfl) ?_ _
        gi_wp2
        refine ⟨fun f hf => (by cases hf), ?_⟩
        gi_wp2
        have hr := HB.out
        exact ⟨keepsF_below KB.out, Kept.below KB.out (fun k hk => by rcases hk with rfl | rfl | rfl <;> omega), HB.out, HX.out⟩
      · skip
        have hz84 := zero84
        go_simp
        have pb := Blk.new Y3h0 84 zSe
        have hy := (Below.refl Y3h0.heap.size Y3h0).alloc (Nat.le_refl _) (.cells zSe 84)
        obtain ⟨gX, hgX⟩ : ∃ g, g = Y3h0.heap.size := ⟨_, rfl⟩
        have hg0X : W'.heap.size ≤ gX := by rw [hgX]; exact KB.out.size
        replace K := lh (K.out.trans (hy.mono K.out.size))
        replace HT := lh (HT.out.below hy)
        replace TB := lh (TB.out.below hy TB.out.lt)
        replace FB := lh (FB.out.below hy FB.out.lt)
        replace FK := lh (FK.out.below hy FK.out.lt)
        replace BT := lh (BT.out.below hy BT.out.lt)
        replace BK := lh (BK.out.below hy BK.out.lt)
        replace BF := lh (BF.out.below hy BF.out.lt)
        replace RP := lh (RP.out.below hy RP.out.lt)
        replace RC := lh (RC.out.below hy RC.out.lt)
        replace RB := lh (RB.out.below hy RB.out.lt)
        replace PX := lh (PX.out.below hy PX.out.lt)
        replace HB := lh (HB.out.trans (hy.mono HB.out.size))
        replace KB := lh (KB.out.trans (hy.mono KB.out.size))
        rw [← hgX] at pb ⊢
        have X := lh pb
        clear pb hy hgX
        generalize Y3h0.alloc (.cells zSe 84) = Y3h1 at *
        refine hK.out _ _ ⟨BT.out, PX.out, TB.out⟩ (fun _ => ?_)
        clear hK KK
        try simp only [Act.put, tS1, tS2, tS3]
        clear hz84
        refine tkO 5 (fun KK hK => ?_)
        go_simp
        refine (CGx.out Y3h1 HT.out.G).mono ?_
        rintro e Y3h2 ⟨rfl, hy⟩
        replace K := lh (K.out.trans (hy.mono K.out.size))
        replace HT := lh (HT.out.below hy)
        replace TB := lh (TB.out.below hy TB.out.lt)
        replace FB := lh (FB.out.below hy FB.out.lt)
        replace FK := lh (FK.out.below hy FK.out.lt)
        replace BT := lh (BT.out.below hy BT.out.lt)
        replace BK := lh (BK.out.below hy BK.out.lt)
        replace BF := lh (BF.out.below hy BF.out.lt)
        replace RP := lh (RP.out.below hy RP.out.lt)
        replace RC := lh (RC.out.below hy RC.out.lt)
        replace RB := lh (RB.out.below hy RB.out.lt)
        replace PX := lh (PX.out.below hy PX.out.lt)
        replace HB := lh (HB.out.trans (hy.mono HB.out.size))
        replace KB := lh (KB.out.trans (hy.mono KB.out.size))
        replace X := lh (X.out.below hy X.out.lt)
        clear hy
        refine hK.out _ _ ⟨BT.out, PX.out, TB.out⟩ (fun _ => ?_)
        clear hK KK
        try simp only [Act.put, tS1, tS2, tS3]
        refine tkA 6 (?_) ?_ ⟨BT.out, PX.out, TB.out⟩ ?_
        rotate_left
        · (intro w1 hS; go_simp; try with_reducible rfl)
        simp only [Act.put, tS1, tS2, tS3]
        refine tkA 7 (?_) ?_ ⟨BT.out, PX.out, TB.out⟩ ?_
        rotate_left
        · (intro w1 hS; go_simp; try with_reducible rfl)
        simp only [Act.put, tS1, tS2, tS3]
        refine tkA 8 (?_) ?_ ⟨BT.out, PX.out, TB.out⟩ ?_
        rotate_left
        · (intro w1 hS; go_simp; try with_reducible rfl)
        simp only [Act.put, tS1, tS2, tS3]
        refine tkO 10 (fun KK hK => ?_)
        rw [if_pos (by rfl)]
        refine wp_blk_store 84 (.tmp 10) (.tmp 26) rfl zSe rfl rfl X.out zz84 ZI.out ZA.out ?_
        intro Y3h3 hA hF hB
        replace K := lh (K.out.trans (hB _ (by omega)))
        replace HT := lh (HT.out.belowB (hB (w.heap.size) (by omega)) (by omega))
        replace TB := lh (show Blk _ _ _ _ from (hF _ (by omega)).trans TB.out)
        replace FB := lh (show Blk _ _ _ _ from (hF _ (by omega)).trans FB.out)
        replace FK := lh (show Blk _ _ _ _ from (hF _ (by omega)).trans FK.out)
        replace BT := lh (show Blk _ _ _ _ from (hF _ (by omega)).trans BT.out)
        replace BK := lh (show Blk _ _ _ _ from (hF _ (by omega)).trans BK.out)
        replace BF := lh (show Blk _ _ _ _ from (hF _ (by omega)).trans BF.out)
        replace RP := lh (show Blk _ _ _ _ from (hF _ (by omega)).trans RP.out)
        replace RC := lh (show Blk _ _ _ _ from (hF _ (by omega)).trans RC.out)
        replace RB := lh (show Blk _ _ _ _ from (hF _ (by omega)).trans RB.out)
        replace PX := lh (show Blk _ _ _ _ from (hF _ (by omega)).trans PX.out)
        replace HB := lh (HB.out.trans (hB _ (by omega)))
        replace KB := lh (KB.out.trans (hB _ (by omega)))
        replace X := lh hA
        clear hA hF hB
        refine hK.out _ _ ⟨BT.out, PX.out, TB.out⟩ (fun _ => ?_)
        clear hK KK
        try simp only [Act.put]
        refine tkA 11 (?_) ?_ ⟨BT.out, PX.out, TB.out⟩ ?_
        rotate_left
        · (intro w1 hS; go_simp; try with_reducible rfl)
        simp only [Act.put, tS1, tS2, tS3]
        refine wpAnyH_done (by kernel_rfl) ?_ _
        gi_wp2
        refine ⟨fun f hf => (by cases hf), ?_⟩
        gi_wp2
        have hr := HB.out
        exact ⟨keepsF_below KB.out, Kept.below KB.out (fun k hk => by rcases hk with rfl | rfl | rfl <;> omega), HB.out, HX.out⟩
    | some s =>
      rw [hx] at CGx
      have SI := s.ib
      have SA : Hid (s.cs.all (·.oneCell') = true) := oC_all (some s)
      have SY : Hid (s.cs.size = zSe.size) := by show _ = _; rw [s.size, zSe_size]
      have CQs := lh (CQ.out s)
      have SP := lh (seC_cell s.k s.fit true s.d s.v s.r)
      change Hid ((s.cs.toList.drop 37).take s.ce.toList.length = s.ce.toList) at SP
      have HX0 := lh (fun hq => fst1_one_no f qf pre x s HNN.out hx hq)
      have HX1 := lh (fun hq => fst1_one_yes f qf pre x s HNN.out hx hq)
      change Hid (∀ W, _ → Calls _ _ _ _ fun e w' => e = .returned (.tuple #[.agg s.cs, .bool true]) ∧ _) at CGx
      clear hx CG CQ
      gi_wp2_with fail
      refine wpIn_region_held_round (S := (fun w' : World => Blk w' (w.heap.size) 31 #[.pointer (some ⟨tn, 0, none⟩)] ∧ Blk w' (bp) 51 (pcP x) ∧ Blk w' (tn) 80 tc)) (by kernel_rfl) (by kernel_rfl) (fun ⟨_, _, h⟩ => h) ?_
      have hy : Below W'.heap.size W' W'.drew := (Below.refl _ _).drew
      replace K := lh (K.out.trans (hy.mono K.out.size))
      replace HT := lh (HT.out.below hy)
      replace TB := lh (TB.out.below hy TB.out.lt)
      replace FB := lh (FB.out.below hy FB.out.lt)
      replace FK := lh (FK.out.below hy FK.out.lt)
      replace BT := lh (BT.out.below hy BT.out.lt)
      replace BK := lh (BK.out.below hy BK.out.lt)
      replace BF := lh (BF.out.below hy BF.out.lt)
      replace RP := lh (RP.out.below hy RP.out.lt)
      replace RC := lh (RC.out.below hy RC.out.lt)
      replace RB := lh (RB.out.below hy RB.out.lt)
      replace PX := lh (PX.out.below hy PX.out.lt)
      replace HB := lh (HB.out.trans (hy.mono HB.out.size))
      replace KB := lh (KB.out.trans (hy.mono KB.out.size))
      clear hy
      generalize W'.drew = Y3h0 at *
      refine tkA 0 (?_) ?_ ⟨BT.out, PX.out, TB.out⟩ ?_
      rotate_left
      · (intro w1 hS; obtain ⟨hS0, hS1, hS2⟩ := hS; have q := hS0.cell 0; go_simp; try with_reducible rfl)
      simp only [Act.put, tS1, tS2, tS3]
      refine tkA 1 (?_) ?_ ⟨BT.out, PX.out, TB.out⟩ ?_
      rotate_left
      · (intro w1 hS; go_simp; try with_reducible rfl)
      simp only [Act.put, tS1, tS2, tS3]
      refine tkA 2 (?_) ?_ ⟨BT.out, PX.out, TB.out⟩ ?_
      rotate_left
      · (intro w1 hS; go_simp; try with_reducible rfl)
      simp only [Act.put, tS1, tS2, tS3]
      refine tkA 3 (?_) ?_ ⟨BT.out, PX.out, TB.out⟩ ?_
      rotate_left
      · (intro w1 hS; obtain ⟨hS0, hS1, hS2⟩ := hS; have q := (hS2.cell 1).trans T1.out; go_simp; try with_reducible rfl)
      simp only [Act.put, tS1, tS2, tS3]
      refine tkA 4 (.agg (pcP x)) ?_ ⟨BT.out, PX.out, TB.out⟩ ?_
      · (intro w1 hS; obtain ⟨hS0, hS1, hS2⟩ := hS; exact exec_load 51 (.tmp 9) rfl _ rfl _ (run_blk_load (P := Try.prog) 51 (bp) _ hS1 Try.underlying51 rfl IPX.out))
      simp only [Act.put, tS1, tS2, tS3]
      refine tkB 5 9 (fun KK hK => ?_) (fun KK hK => ?_)
      · skip
        go_simp
        refine (CGx.out Y3h0 HT.out.G).mono ?_
        rintro e Y3h1 ⟨rfl, hy⟩
        replace K := lh (K.out.trans (hy.mono K.out.size))
        replace HT := lh (HT.out.below hy)
        replace TB := lh (TB.out.below hy TB.out.lt)
        replace FB := lh (FB.out.below hy FB.out.lt)
        replace FK := lh (FK.out.below hy FK.out.lt)
        replace BT := lh (BT.out.below hy BT.out.lt)
        replace BK := lh (BK.out.below hy BK.out.lt)
        replace BF := lh (BF.out.below hy BF.out.lt)
        replace RP := lh (RP.out.below hy RP.out.lt)
        replace RC := lh (RC.out.below hy RC.out.lt)
        replace RB := lh (RB.out.below hy RB.out.lt)
        replace PX := lh (PX.out.below hy PX.out.lt)
        replace HB := lh (HB.out.trans (hy.mono HB.out.size))
        replace KB := lh (KB.out.trans (hy.mono KB.out.size))
        clear hy
        refine hK.out _ _ ⟨BT.out, PX.out, TB.out⟩ (fun _ => ?_)
        clear hK KK
        try simp only [Act.put, tS1, tS2, tS3]
        refine tkA 6 (?_) ?_ ⟨BT.out, PX.out, TB.out⟩ ?_
        rotate_left
        · (intro w1 hS; go_simp; try with_reducible rfl)
        simp only [Act.put, tS1, tS2, tS3]
        refine tkA 7 (?_) ?_ ⟨BT.out, PX.out, TB.out⟩ ?_
        rotate_left
        · (intro w1 hS; go_simp; try with_reducible rfl)
        simp only [Act.put, tS1, tS2, tS3]
        refine tkA 8 (?_) ?_ ⟨BT.out, PX.out, TB.out⟩ ?_
        rotate_left
        · (intro w1 hS; go_simp; try with_reducible rfl)
        simp only [Act.put, tS1, tS2, tS3]
        have hz84 := zero84
        refine tkO 9 (fun KK hK => ?_)
        go_simp
        have pb := Blk.new Y3h1 84 zSe
        have hy := (Below.refl Y3h1.heap.size Y3h1).alloc (Nat.le_refl _) (.cells zSe 84)
        obtain ⟨gX, hgX⟩ : ∃ g, g = Y3h1.heap.size := ⟨_, rfl⟩
        have hg0X : W'.heap.size ≤ gX := by rw [hgX]; exact KB.out.size
        replace K := lh (K.out.trans (hy.mono K.out.size))
        replace HT := lh (HT.out.below hy)
        replace TB := lh (TB.out.below hy TB.out.lt)
        replace FB := lh (FB.out.below hy FB.out.lt)
        replace FK := lh (FK.out.below hy FK.out.lt)
        replace BT := lh (BT.out.below hy BT.out.lt)
        replace BK := lh (BK.out.below hy BK.out.lt)
        replace BF := lh (BF.out.below hy BF.out.lt)
        replace RP := lh (RP.out.below hy RP.out.lt)
        replace RC := lh (RC.out.below hy RC.out.lt)
        replace RB := lh (RB.out.below hy RB.out.lt)
        replace PX := lh (PX.out.below hy PX.out.lt)
        replace HB := lh (HB.out.trans (hy.mono HB.out.size))
        replace KB := lh (KB.out.trans (hy.mono KB.out.size))
        rw [← hgX] at pb ⊢
        have X := lh pb
        clear pb hy hgX
        generalize Y3h1.alloc (.cells zSe 84) = Y3h2 at *
        refine hK.out _ _ ⟨BT.out, PX.out, TB.out⟩ (fun _ => ?_)
        clear hK KK
        try simp only [Act.put, tS1, tS2, tS3]
        clear hz84
        refine tkO 10 (fun KK hK => ?_)
        rw [if_pos (by rfl)]
        refine wp_blk_store 84 (.tmp 10) (.tmp 26) rfl s.cs rfl rfl X.out SY.out SI.out SA.out ?_
        intro Y3h3 hA hF hB
        replace K := lh (K.out.trans (hB _ (by omega)))
        replace HT := lh (HT.out.belowB (hB (w.heap.size) (by omega)) (by omega))
        replace TB := lh (show Blk _ _ _ _ from (hF _ (by omega)).trans TB.out)
        replace FB := lh (show Blk _ _ _ _ from (hF _ (by omega)).trans FB.out)
        replace FK := lh (show Blk _ _ _ _ from (hF _ (by omega)).trans FK.out)
        replace BT := lh (show Blk _ _ _ _ from (hF _ (by omega)).trans BT.out)
        replace BK := lh (show Blk _ _ _ _ from (hF _ (by omega)).trans BK.out)
        replace BF := lh (show Blk _ _ _ _ from (hF _ (by omega)).trans BF.out)
        replace RP := lh (show Blk _ _ _ _ from (hF _ (by omega)).trans RP.out)
        replace RC := lh (show Blk _ _ _ _ from (hF _ (by omega)).trans RC.out)
        replace RB := lh (show Blk _ _ _ _ from (hF _ (by omega)).trans RB.out)
        replace PX := lh (show Blk _ _ _ _ from (hF _ (by omega)).trans PX.out)
        replace HB := lh (HB.out.trans (hB _ (by omega)))
        replace KB := lh (KB.out.trans (hB _ (by omega)))
        replace X := lh hA
        clear hA hF hB
        refine hK.out _ _ ⟨BT.out, PX.out, TB.out⟩ (fun _ => ?_)
        clear hK KK
        try simp only [Act.put]
        refine tkA 11 (?_) ?_ ⟨BT.out, PX.out, TB.out⟩ ?_
        rotate_left
        · (intro w1 hS; go_simp; try with_reducible rfl)
        simp only [Act.put, tS1, tS2, tS3]
        refine wpAnyH_done (by kernel_rfl) ?_ _
        have c5 := BF.out.cell 0
        have L31 : (loadVar 84 ⟨gX, 0, none⟩).run Try.prog Y3h3 = .ok (.agg s.cs) Y3h3 := run_blk_load (P := Try.prog) 84 gX _ X.out Try.underlying84 rfl SI.out
        replace L31 := lh L31
        gi_wp2_with ((with_reducible refine wpListIn_load_want (op := ⟨some 31, .load 84 (.tmp 10), _, _, _, _⟩) ?wg1 84 (.tmp 10) ?wo1 ⟨gX, 0, none⟩ ?wx1 (.agg s.cs) L31.out ?_); (case wg1 => rfl); (case wo1 => rfl); (case wx1 => rfl))
        refine ⟨trivial, ?_⟩
        refine (CallsIn.inRound l (callsIn_wide.2 (CQs.out Y3h3 FK.out))).mono ?_
        rintro e Vc ⟨rfl, hy⟩
        clear L31 c5
        replace K := lh (K.out.trans (hy.mono K.out.size))
        replace HT := lh (HT.out.below hy)
        replace TB := lh (TB.out.below hy TB.out.lt)
        replace FB := lh (FB.out.below hy FB.out.lt)
        replace FK := lh (FK.out.below hy FK.out.lt)
        replace BT := lh (BT.out.below hy BT.out.lt)
        replace BK := lh (BK.out.below hy BK.out.lt)
        replace BF := lh (BF.out.below hy BF.out.lt)
        replace RP := lh (RP.out.below hy RP.out.lt)
        replace RC := lh (RC.out.below hy RC.out.lt)
        replace RB := lh (RB.out.below hy RB.out.lt)
        replace PX := lh (PX.out.below hy PX.out.lt)
        replace HB := lh (HB.out.trans (hy.mono HB.out.size))
        replace KB := lh (KB.out.trans (hy.mono KB.out.size))
        replace X := lh (X.out.below hy X.out.lt)
        clear hy
        cases hq : qf s with
        | false =>
          gi_wp2
          have hr := HB.out
          exact ⟨keepsF_below KB.out, Kept.below KB.out (fun k hk => by rcases hk with rfl | rfl | rfl <;> omega), HB.out, HX0.out hq⟩
        | true =>
          have HX := lh (HX1.out hq)
          clear hq HX0 HX1 CQs CGx
          have KF := lh (keepsF_below (b := Y1h1.heap.size) KB.out)
          clear KB HB BT TB FB FK
          gi_wp2_with fail
          have IX0 := IPX.out
          have PY : Hid ((pcP x).size = (#[Value.int .i64 0, .int .i64 0] : Array Value).size) := rfl
          have PA : Hid ((pcP x).all (·.oneCell') = true) := pcP_all x
          have CY : Hid (s.ce.size = zCe.size) := rfl
          have CI : Hid ((Try.prog.info? 46).map (·.size) = some s.ce.size) := i46c
          have CA : Hid (s.ce.all (·.oneCell') = true) := ceC_all _ _ _ _
          have CI2 : Hid ((Try.prog.info? 46).map (·.size) = some s.ce.toList.length) := i46c
          refine wpIn_region_held_round (S := (fun w' : World => Blk w' (bp) 51 (pcP x) ∧ Blk w' (gX) 84 s.cs)) (by kernel_rfl) (by kernel_rfl) (fun ⟨_, _, h⟩ => h) ?_
          have hy : Below Vc.heap.size Vc Vc.drew := (Below.refl _ _).drew
          replace K := lh (K.out.trans (hy.mono K.out.size))
          replace HT := lh (HT.out.below hy)
          replace BK := lh (BK.out.below hy BK.out.lt)
          replace BF := lh (BF.out.below hy BF.out.lt)
          replace RP := lh (RP.out.below hy RP.out.lt)
          replace RC := lh (RC.out.below hy RC.out.lt)
          replace RB := lh (RB.out.below hy RB.out.lt)
          replace PX := lh (PX.out.below hy PX.out.lt)
          replace X := lh (X.out.below hy X.out.lt)
          replace KF := lh (KF.out.trans (keepsF_below hy))
          clear hy
          generalize Vc.drew = Y5h0 at *
          refine tkA 0 (.agg (pcP x)) ?_ ⟨PX.out, X.out⟩ ?_
          · (intro w1 hS; obtain ⟨hS0, hS1⟩ := hS; exact exec_load 51 (.tmp 9) rfl _ rfl _ (run_blk_load (P := Try.prog) 51 (bp) _ hS0 Try.underlying51 rfl IPX.out))
          simp only [Act.put, tS1, tS2, tS3]
          refine tkA 1 (?_) ?_ ⟨PX.out, X.out⟩ ?_
          rotate_left
          · (intro w1 hS; go_simp; try with_reducible rfl)
          simp only [Act.put, tS1, tS2, tS3]
          refine tkA 2 (.agg s.ce) ?_ ⟨PX.out, X.out⟩ ?_
          · (intro w1 hS; obtain ⟨hS0, hS1⟩ := hS; exact exec_load 46 (.tmp 35) rfl _ rfl _ (by have h := run_part_load (P := Try.prog) 46 37 s.ce.toList _ hS1 SP.out Try.underlying46 rfl CI2.out; rwa [Array.toArray_toList] at h))
          simp only [Act.put, tS1, tS2, tS3]
          refine tkO 3 (fun KK hK => ?_)
          rw [if_pos (by rfl)]
          refine wp_blk_store 51 (.tmp 6) (.tmp 34) rfl (pcP x) rfl rfl RP.out PY.out IPX.out PA.out ?_
          intro Y5h1 hA hF hB
          replace K := lh (K.out.trans (hB _ (by omega)))
          replace HT := lh (HT.out.belowB (hB (w.heap.size) (by omega)) (by omega))
          replace BK := lh (show Blk _ _ _ _ from (hF _ (by omega)).trans BK.out)
          replace BF := lh (show Blk _ _ _ _ from (hF _ (by omega)).trans BF.out)
          replace RC := lh (show Blk _ _ _ _ from (hF _ (by omega)).trans RC.out)
          replace RB := lh (show Blk _ _ _ _ from (hF _ (by omega)).trans RB.out)
          replace PX := lh (show Blk _ _ _ _ from (hF _ (by omega)).trans PX.out)
          replace X := lh (show Blk _ _ _ _ from (hF _ (by omega)).trans X.out)
          replace KF := lh (KF.out.trans (keepsF_store RP.out hF (hB 0 (Nat.zero_le _)).size))
          replace RP := lh hA
          clear hA hF hB
          refine hK.out _ _ ⟨PX.out, X.out⟩ (fun _ => ?_)
          clear hK KK
          try simp only [Act.put]
          refine tkO 4 (fun KK hK => ?_)
          rw [if_pos (by rfl)]
          refine wp_blk_store 46 (.tmp 7) (.tmp 36) rfl s.ce rfl rfl RC.out CY.out CI.out CA.out ?_
          intro Y5h2 hA hF hB
          replace K := lh (K.out.trans (hB _ (by omega)))
          replace HT := lh (HT.out.belowB (hB (w.heap.size) (by omega)) (by omega))
          replace BK := lh (show Blk _ _ _ _ from (hF _ (by omega)).trans BK.out)
          replace BF := lh (show Blk _ _ _ _ from (hF _ (by omega)).trans BF.out)
          replace RP := lh (show Blk _ _ _ _ from (hF _ (by omega)).trans RP.out)
          replace RB := lh (show Blk _ _ _ _ from (hF _ (by omega)).trans RB.out)
          replace PX := lh (show Blk _ _ _ _ from (hF _ (by omega)).trans PX.out)
          replace X := lh (show Blk _ _ _ _ from (hF _ (by omega)).trans X.out)
          replace KF := lh (KF.out.trans (keepsF_store RC.out hF (hB 0 (Nat.zero_le _)).size))
          replace RC := lh hA
          clear hA hF hB
          refine hK.out _ _ ⟨PX.out, X.out⟩ (fun _ => ?_)
          clear hK KK
          try simp only [Act.put]
          refine tkO 5 (fun KK hK => ?_)
          have k1 : Y5h2.cell? ⟨w.heap.size + 1 + 1 + 1 + 1 + 1, 0, none⟩ = some (.bool false) := RB.out.cell 0
          have k2 := RB.out.frozen 0
          go_simp
          replace K := lh (K.out.setCell (p := ⟨w.heap.size + 1 + 1 + 1 + 1 + 1, 0, none⟩) (by show _ ≤ w.heap.size + 1 + 1 + 1 + 1 + 1; omega) (.bool true))
          replace HT := lh (HT.out.belowB (((Below.refl (w.heap.size) Y5h2).setCell (p := ⟨w.heap.size + 1 + 1 + 1 + 1 + 1, 0, none⟩) (by show _ ≤ w.heap.size + 1 + 1 + 1 + 1 + 1; omega) (.bool true))) (by omega))
          replace BK := lh (BK.out.far (p := ⟨w.heap.size + 1 + 1 + 1 + 1 + 1, 0, none⟩) (by show _ ≠ w.heap.size + 1 + 1 + 1 + 1 + 1; omega) (.bool true))
          replace BF := lh (BF.out.far (p := ⟨w.heap.size + 1 + 1 + 1 + 1 + 1, 0, none⟩) (by show _ ≠ w.heap.size + 1 + 1 + 1 + 1 + 1; omega) (.bool true))
          replace RP := lh (RP.out.far (p := ⟨w.heap.size + 1 + 1 + 1 + 1 + 1, 0, none⟩) (by show _ ≠ w.heap.size + 1 + 1 + 1 + 1 + 1; omega) (.bool true))
          replace RC := lh (RC.out.far (p := ⟨w.heap.size + 1 + 1 + 1 + 1 + 1, 0, none⟩) (by show _ ≠ w.heap.size + 1 + 1 + 1 + 1 + 1; omega) (.bool true))
          replace PX := lh (PX.out.far (p := ⟨w.heap.size + 1 + 1 + 1 + 1 + 1, 0, none⟩) (by show _ ≠ w.heap.size + 1 + 1 + 1 + 1 + 1; omega) (.bool true))
          replace X := lh (X.out.far (p := ⟨w.heap.size + 1 + 1 + 1 + 1 + 1, 0, none⟩) (by show _ ≠ w.heap.size + 1 + 1 + 1 + 1 + 1; omega) (.bool true))
          replace KF := lh (KF.out.trans ((KeepsOthers.setCell Y5h2 ⟨w.heap.size + 1 + 1 + 1 + 1 + 1, 0, none⟩ (.bool true)).from _))
          replace RB := lh (show Blk _ _ 4 #[.bool true] from RB.out.set_ 0 (.bool true))
          clear k1 k2
          generalize Y5h2.setCell ⟨w.heap.size + 1 + 1 + 1 + 1 + 1, 0, none⟩ (.bool true) = Y5h3 at *
          refine hK.out _ _ ⟨PX.out, X.out⟩ (fun _ => ?_)
          clear hK KK
          try simp only [Act.put]
          refine wpAnyH_done (by kernel_rfl) ?_ _
          gi_wp2
          exact ⟨KF.out, rfl, (x, s), HX.out, RP.out, RC.out, RB.out, K.out⟩
      · skip
        have hz84 := zero84
        go_simp
        have pb := Blk.new Y3h0 84 zSe
        have hy := (Below.refl Y3h0.heap.size Y3h0).alloc (Nat.le_refl _) (.cells zSe 84)
        obtain ⟨gX, hgX⟩ : ∃ g, g = Y3h0.heap.size := ⟨_, rfl⟩
        have hg0X : W'.heap.size ≤ gX := by rw [hgX]; exact KB.out.size
        replace K := lh (K.out.trans (hy.mono K.out.size))
        replace HT := lh (HT.out.below hy)
        replace TB := lh (TB.out.below hy TB.out.lt)
        replace FB := lh (FB.out.below hy FB.out.lt)
        replace FK := lh (FK.out.below hy FK.out.lt)
        replace BT := lh (BT.out.below hy BT.out.lt)
        replace BK := lh (BK.out.below hy BK.out.lt)
        replace BF := lh (BF.out.below hy BF.out.lt)
        replace RP := lh (RP.out.below hy RP.out.lt)
        replace RC := lh (RC.out.below hy RC.out.lt)
        replace RB := lh (RB.out.below hy RB.out.lt)
        replace PX := lh (PX.out.below hy PX.out.lt)
        replace HB := lh (HB.out.trans (hy.mono HB.out.size))
        replace KB := lh (KB.out.trans (hy.mono KB.out.size))
        rw [← hgX] at pb ⊢
        have X := lh pb
        clear pb hy hgX
        generalize Y3h0.alloc (.cells zSe 84) = Y3h1 at *
        refine hK.out _ _ ⟨BT.out, PX.out, TB.out⟩ (fun _ => ?_)
        clear hK KK
        try simp only [Act.put, tS1, tS2, tS3]
        clear hz84
        refine tkO 5 (fun KK hK => ?_)
        go_simp
        refine (CGx.out Y3h1 HT.out.G).mono ?_
        rintro e Y3h2 ⟨rfl, hy⟩
        replace K := lh (K.out.trans (hy.mono K.out.size))
        replace HT := lh (HT.out.below hy)
        replace TB := lh (TB.out.below hy TB.out.lt)
        replace FB := lh (FB.out.below hy FB.out.lt)
        replace FK := lh (FK.out.below hy FK.out.lt)
        replace BT := lh (BT.out.below hy BT.out.lt)
        replace BK := lh (BK.out.below hy BK.out.lt)
        replace BF := lh (BF.out.below hy BF.out.lt)
        replace RP := lh (RP.out.below hy RP.out.lt)
        replace RC := lh (RC.out.below hy RC.out.lt)
        replace RB := lh (RB.out.below hy RB.out.lt)
        replace PX := lh (PX.out.below hy PX.out.lt)
        replace HB := lh (HB.out.trans (hy.mono HB.out.size))
        replace KB := lh (KB.out.trans (hy.mono KB.out.size))
        replace X := lh (X.out.below hy X.out.lt)
        clear hy
        refine hK.out _ _ ⟨BT.out, PX.out, TB.out⟩ (fun _ => ?_)
        clear hK KK
        try simp only [Act.put, tS1, tS2, tS3]
        refine tkA 6 (?_) ?_ ⟨BT.out, PX.out, TB.out⟩ ?_
        rotate_left
        · (intro w1 hS; go_simp; try with_reducible rfl)
        simp only [Act.put, tS1, tS2, tS3]
        refine tkA 7 (?_) ?_ ⟨BT.out, PX.out, TB.out⟩ ?_
        rotate_left
        · (intro w1 hS; go_simp; try with_reducible rfl)
        simp only [Act.put, tS1, tS2, tS3]
        refine tkA 8 (?_) ?_ ⟨BT.out, PX.out, TB.out⟩ ?_
        rotate_left
        · (intro w1 hS; go_simp; try with_reducible rfl)
        simp only [Act.put, tS1, tS2, tS3]
        refine tkO 10 (fun KK hK => ?_)
        rw [if_pos (by rfl)]
        refine wp_blk_store 84 (.tmp 10) (.tmp 26) rfl s.cs rfl rfl X.out SY.out SI.out SA.out ?_
        intro Y3h3 hA hF hB
        replace K := lh (K.out.trans (hB _ (by omega)))
        replace HT := lh (HT.out.belowB (hB (w.heap.size) (by omega)) (by omega))
        replace TB := lh (show Blk _ _ _ _ from (hF _ (by omega)).trans TB.out)
        replace FB := lh (show Blk _ _ _ _ from (hF _ (by omega)).trans FB.out)
        replace FK := lh (show Blk _ _ _ _ from (hF _ (by omega)).trans FK.out)
        replace BT := lh (show Blk _ _ _ _ from (hF _ (by omega)).trans BT.out)
        replace BK := lh (show Blk _ _ _ _ from (hF _ (by omega)).trans BK.out)
        replace BF := lh (show Blk _ _ _ _ from (hF _ (by omega)).trans BF.out)
        replace RP := lh (show Blk _ _ _ _ from (hF _ (by omega)).trans RP.out)
        replace RC := lh (show Blk _ _ _ _ from (hF _ (by omega)).trans RC.out)
        replace RB := lh (show Blk _ _ _ _ from (hF _ (by omega)).trans RB.out)
        replace PX := lh (show Blk _ _ _ _ from (hF _ (by omega)).trans PX.out)
        replace HB := lh (HB.out.trans (hB _ (by omega)))
        replace KB := lh (KB.out.trans (hB _ (by omega)))
        replace X := lh hA
        clear hA hF hB
        refine hK.out _ _ ⟨BT.out, PX.out, TB.out⟩ (fun _ => ?_)
        clear hK KK
        try simp only [Act.put]
        refine tkA 11 (?_) ?_ ⟨BT.out, PX.out, TB.out⟩ ?_
        rotate_left
        · (intro w1 hS; go_simp; try with_reducible rfl)
        simp only [Act.put, tS1, tS2, tS3]
        refine wpAnyH_done (by kernel_rfl) ?_ _
        have c5 := BF.out.cell 0
        have L31 : (loadVar 84 ⟨gX, 0, none⟩).run Try.prog Y3h3 = .ok (.agg s.cs) Y3h3 := run_blk_load (P := Try.prog) 84 gX _ X.out Try.underlying84 rfl SI.out
        replace L31 := lh L31
        gi_wp2_with ((with_reducible refine wpListIn_load_want (op := ⟨some 31, .load 84 (.tmp 10), _, _, _, _⟩) ?wg1 84 (.tmp 10) ?wo1 ⟨gX, 0, none⟩ ?wx1 (.agg s.cs) L31.out ?_); (case wg1 => rfl); (case wo1 => rfl); (case wx1 => rfl))
        refine ⟨trivial, ?_⟩
        refine (CallsIn.inRound l (callsIn_wide.2 (CQs.out Y3h3 FK.out))).mono ?_
        rintro e Vc ⟨rfl, hy⟩
        clear L31 c5
        replace K := lh (K.out.trans (hy.mono K.out.size))
        replace HT := lh (HT.out.below hy)
        replace TB := lh (TB.out.below hy TB.out.lt)
        replace FB := lh (FB.out.below hy FB.out.lt)
        replace FK := lh (FK.out.below hy FK.out.lt)
        replace BT := lh (BT.out.below hy BT.out.lt)
        replace BK := lh (BK.out.below hy BK.out.lt)
        replace BF := lh (BF.out.below hy BF.out.lt)
        replace RP := lh (RP.out.below hy RP.out.lt)
        replace RC := lh (RC.out.below hy RC.out.lt)
        replace RB := lh (RB.out.below hy RB.out.lt)
        replace PX := lh (PX.out.below hy PX.out.lt)
        replace HB := lh (HB.out.trans (hy.mono HB.out.size))
        replace KB := lh (KB.out.trans (hy.mono KB.out.size))
        replace X := lh (X.out.below hy X.out.lt)
        clear hy
        cases hq : qf s with
        | false =>
          gi_wp2
          have hr := HB.out
          exact ⟨keepsF_below KB.out, Kept.below KB.out (fun k hk => by rcases hk with rfl | rfl | rfl <;> omega), HB.out, HX0.out hq⟩
        | true =>
          have HX := lh (HX1.out hq)
          clear hq HX0 HX1 CQs CGx
          have KF := lh (keepsF_below (b := Y1h1.heap.size) KB.out)
          clear KB HB BT TB FB FK
          gi_wp2_with fail
          have IX0 := IPX.out
          have PY : Hid ((pcP x).size = (#[Value.int .i64 0, .int .i64 0] : Array Value).size) := rfl
          have PA : Hid ((pcP x).all (·.oneCell') = true) := pcP_all x
          have CY : Hid (s.ce.size = zCe.size) := rfl
          have CI : Hid ((Try.prog.info? 46).map (·.size) = some s.ce.size) := i46c
          have CA : Hid (s.ce.all (·.oneCell') = true) := ceC_all _ _ _ _
          have CI2 : Hid ((Try.prog.info? 46).map (·.size) = some s.ce.toList.length) := i46c
          refine wpIn_region_held_round (S := (fun w' : World => Blk w' (bp) 51 (pcP x) ∧ Blk w' (gX) 84 s.cs)) (by kernel_rfl) (by kernel_rfl) (fun ⟨_, _, h⟩ => h) ?_
          have hy : Below Vc.heap.size Vc Vc.drew := (Below.refl _ _).drew
          replace K := lh (K.out.trans (hy.mono K.out.size))
          replace HT := lh (HT.out.below hy)
          replace BK := lh (BK.out.below hy BK.out.lt)
          replace BF := lh (BF.out.below hy BF.out.lt)
          replace RP := lh (RP.out.below hy RP.out.lt)
          replace RC := lh (RC.out.below hy RC.out.lt)
          replace RB := lh (RB.out.below hy RB.out.lt)
          replace PX := lh (PX.out.below hy PX.out.lt)
          replace X := lh (X.out.below hy X.out.lt)
          replace KF := lh (KF.out.trans (keepsF_below hy))
          clear hy
          generalize Vc.drew = Y5h0 at *
          refine tkA 0 (.agg (pcP x)) ?_ ⟨PX.out, X.out⟩ ?_
          · (intro w1 hS; obtain ⟨hS0, hS1⟩ := hS; exact exec_load 51 (.tmp 9) rfl _ rfl _ (run_blk_load (P := Try.prog) 51 (bp) _ hS0 Try.underlying51 rfl IPX.out))
          simp only [Act.put, tS1, tS2, tS3]
          refine tkA 1 (?_) ?_ ⟨PX.out, X.out⟩ ?_
          rotate_left
          · (intro w1 hS; go_simp; try with_reducible rfl)
          simp only [Act.put, tS1, tS2, tS3]
          refine tkA 2 (.agg s.ce) ?_ ⟨PX.out, X.out⟩ ?_
          · (intro w1 hS; obtain ⟨hS0, hS1⟩ := hS; exact exec_load 46 (.tmp 35) rfl _ rfl _ (by have h := run_part_load (P := Try.prog) 46 37 s.ce.toList _ hS1 SP.out Try.underlying46 rfl CI2.out; rwa [Array.toArray_toList] at h))
          simp only [Act.put, tS1, tS2, tS3]
          refine tkO 3 (fun KK hK => ?_)
          rw [if_pos (by rfl)]
          refine wp_blk_store 51 (.tmp 6) (.tmp 34) rfl (pcP x) rfl rfl RP.out PY.out IPX.out PA.out ?_
          intro Y5h1 hA hF hB
          replace K := lh (K.out.trans (hB _ (by omega)))
          replace HT := lh (HT.out.belowB (hB (w.heap.size) (by omega)) (by omega))
          replace BK := lh (show Blk _ _ _ _ from (hF _ (by omega)).trans BK.out)
          replace BF := lh (show Blk _ _ _ _ from (hF _ (by omega)).trans BF.out)
          replace RC := lh (show Blk _ _ _ _ from (hF _ (by omega)).trans RC.out)
          replace RB := lh (show Blk _ _ _ _ from (hF _ (by omega)).trans RB.out)
          replace PX := lh (show Blk _ _ _ _ from (hF _ (by omega)).trans PX.out)
          replace X := lh (show Blk _ _ _ _ from (hF _ (by omega)).trans X.out)
          replace KF := lh (KF.out.trans (keepsF_store RP.out hF (hB 0 (Nat.zero_le _)).size))
          replace RP := lh hA
          clear hA hF hB
          refine hK.out _ _ ⟨PX.out, X.out⟩ (fun _ => ?_)
          clear hK KK
          try simp only [Act.put]
          refine tkO 4 (fun KK hK => ?_)
          rw [if_pos (by rfl)]
          refine wp_blk_store 46 (.tmp 7) (.tmp 36) rfl s.ce rfl rfl RC.out CY.out CI.out CA.out ?_
          intro Y5h2 hA hF hB
          replace K := lh (K.out.trans (hB _ (by omega)))
          replace HT := lh (HT.out.belowB (hB (w.heap.size) (by omega)) (by omega))
          replace BK := lh (show Blk _ _ _ _ from (hF _ (by omega)).trans BK.out)
          replace BF := lh (show Blk _ _ _ _ from (hF _ (by omega)).trans BF.out)
          replace RP := lh (show Blk _ _ _ _ from (hF _ (by omega)).trans RP.out)
          replace RB := lh (show Blk _ _ _ _ from (hF _ (by omega)).trans RB.out)
          replace PX := lh (show Blk _ _ _ _ from (hF _ (by omega)).trans PX.out)
          replace X := lh (show Blk _ _ _ _ from (hF _ (by omega)).trans X.out)
          replace KF := lh (KF.out.trans (keepsF_store RC.out hF (hB 0 (Nat.zero_le _)).size))
          replace RC := lh hA
          clear hA hF hB
          refine hK.out _ _ ⟨PX.out, X.out⟩ (fun _ => ?_)
          clear hK KK
          try simp only [Act.put]
          refine tkO 5 (fun KK hK => ?_)
          have k1 : Y5h2.cell? ⟨w.heap.size + 1 + 1 + 1 + 1 + 1, 0, none⟩ = some (.bool false) := RB.out.cell 0
          have k2 := RB.out.frozen 0
          go_simp
          replace K := lh (K.out.setCell (p := ⟨w.heap.size + 1 + 1 + 1 + 1 + 1, 0, none⟩) (by show _ ≤ w.heap.size + 1 + 1 + 1 + 1 + 1; omega) (.bool true))
          replace HT := lh (HT.out.belowB (((Below.refl (w.heap.size) Y5h2).setCell (p := ⟨w.heap.size + 1 + 1 + 1 + 1 + 1, 0, none⟩) (by show _ ≤ w.heap.size + 1 + 1 + 1 + 1 + 1; omega) (.bool true))) (by omega))
          replace BK := lh (BK.out.far (p := ⟨w.heap.size + 1 + 1 + 1 + 1 + 1, 0, none⟩) (by show _ ≠ w.heap.size + 1 + 1 + 1 + 1 + 1; omega) (.bool true))
          replace BF := lh (BF.out.far (p := ⟨w.heap.size + 1 + 1 + 1 + 1 + 1, 0, none⟩) (by show _ ≠ w.heap.size + 1 + 1 + 1 + 1 + 1; omega) (.bool true))
          replace RP := lh (RP.out.far (p := ⟨w.heap.size + 1 + 1 + 1 + 1 + 1, 0, none⟩) (by show _ ≠ w.heap.size + 1 + 1 + 1 + 1 + 1; omega) (.bool true))
          replace RC := lh (RC.out.far (p := ⟨w.heap.size + 1 + 1 + 1 + 1 + 1, 0, none⟩) (by show _ ≠ w.heap.size + 1 + 1 + 1 + 1 + 1; omega) (.bool true))
          replace PX := lh (PX.out.far (p := ⟨w.heap.size + 1 + 1 + 1 + 1 + 1, 0, none⟩) (by show _ ≠ w.heap.size + 1 + 1 + 1 + 1 + 1; omega) (.bool true))
          replace X := lh (X.out.far (p := ⟨w.heap.size + 1 + 1 + 1 + 1 + 1, 0, none⟩) (by show _ ≠ w.heap.size + 1 + 1 + 1 + 1 + 1; omega) (.bool true))
          replace KF := lh (KF.out.trans ((KeepsOthers.setCell Y5h2 ⟨w.heap.size + 1 + 1 + 1 + 1 + 1, 0, none⟩ (.bool true)).from _))
          replace RB := lh (show Blk _ _ 4 #[.bool true] from RB.out.set_ 0 (.bool true))
          clear k1 k2
          generalize Y5h2.setCell ⟨w.heap.size + 1 + 1 + 1 + 1 + 1, 0, none⟩ (.bool true) = Y5h3 at *
          refine hK.out _ _ ⟨PX.out, X.out⟩ (fun _ => ?_)
          clear hK KK
          try simp only [Act.put]
          refine wpAnyH_done (by kernel_rfl) ?_ _
          gi_wp2
          exact ⟨KF.out, rfl, (x, s), HX.out, RP.out, RC.out, RB.out, K.out⟩
  case done =>
    rintro D ys Wn hD hys ⟨hB, hnone⟩ hK
    subst hys
    subst hact
    have hRB := RB.out.lt
    have HNN := lh hnone
    have DK := lh (show Dfr Wn D from hK)
    have hKs := K.out.size
    have HBZ := lh (belowK_b (n₀ := Y1h1.heap.size) (w := Y1h1) (Nat.le_refl _))
    clear hnone hK CP CPL CG CQ hql HST PF PK
    replace K := lh (K.out.trans (hB.mono K.out.size))
    replace RP := lh (RP.out.below hB RP.out.lt)
    replace RC := lh (RC.out.below hB RC.out.lt)
    replace RB := lh (RB.out.below hB RB.out.lt)
    clear hB HT TB FB BT BK BF FK
    have hKn := K.out.size
    have ZP : Hid ((#[Value.int .i64 0, .int .i64 0] : Array Value).all (·.oneCell') = true) := pcP_all (0, 0)
    have IP : Hid ((Try.prog.info? 51).map (·.size) = some (#[Value.int .i64 0, .int .i64 0] : Array Value).size) := i51c
    have ZC : Hid (zCe.all (·.oneCell') = true) := ceC_all _ _ _ _
    have IC : Hid ((Try.prog.info? 46).map (·.size) = some zCe.size) := i46c
    go_wp2_with (first | ((with_reducible refine wpList_built3 (op := ⟨some 37, .build 51 #[], _, _, _, _⟩) ?bg5 51 #[] ?bo5 #[] ?bv5 #[.int .i64 0, .int .i64 0] ?bf5 ?_); (case bg5 => rfl); (case bo5 => rfl); (case bv5 => kernel_rfl); (case bf5 => exact bl51)) | ((with_reducible refine wpList_built3 (op := ⟨some 38, .build 46 #[], _, _, _, _⟩) ?bg6 46 #[] ?bo6 #[] ?bv6 zCe ?bf6 ?_); (case bg6 => rfl); (case bo6 => rfl); (case bv6 => kernel_rfl); (case bf6 => exact bl46)) | ((with_reducible refine wpList_blk_store (op := ⟨none, .store 51 (.tmp 6) (.tmp 37), _, _, _, _⟩) ?sg7 51 (.tmp 6) (.tmp 37) ?so7 (w.heap.size + 1 + 1 + 1) #[.int .i64 0, .int .i64 0] ?sx7 ?sy7 RP.out zz51.out IP.out ZP.out ?_); (case sg7 => rfl); (case so7 => rfl); (case sx7 => rfl); (case sy7 => rfl)))
    intro V201 hA hF hB
    replace K := lh (K.out.trans (hB _ (by omega)))
    replace RC := lh (show Blk _ _ _ _ from (hF _ (by omega)).trans RC.out)
    replace RB := lh (show Blk _ _ _ _ from (hF _ (by omega)).trans RB.out)
    replace DK := lh (show Dfr _ _ from (hF _ (by omega)).trans DK.out)
    replace RP := lh hA
    clear hA hF hB
    go_wp2_with (((with_reducible refine wpList_blk_store (op := ⟨none, .store 46 (.tmp 7) (.tmp 38), _, _, _, _⟩) ?sg8 46 (.tmp 7) (.tmp 38) ?so8 (w.heap.size + 1 + 1 + 1 + 1) zCe ?sx8 ?sy8 RC.out zz46.out IC.out ZC.out ?_); (case sg8 => rfl); (case so8 => rfl); (case sx8 => rfl); (case sy8 => rfl)))
    intro V202 hA hF hB
    replace K := lh (K.out.trans (hB _ (by omega)))
    replace RP := lh (show Blk _ _ _ _ from (hF _ (by omega)).trans RP.out)
    replace RB := lh (show Blk _ _ _ _ from (hF _ (by omega)).trans RB.out)
    replace DK := lh (show Dfr _ _ from (hF _ (by omega)).trans DK.out)
    replace RC := lh hA
    clear hA hF hB
    have k1 : V202.cell? ⟨w.heap.size + 1 + 1 + 1 + 1 + 1, 0, none⟩ = some (.bool false) := RB.out.cell 0
    have k2 := RB.out.frozen 0
    have R2 := lh (show Blk _ _ 4 #[.bool false] from RB.out.set_ 0 (.bool false))
    have P2 := lh (RP.out.far (p := ⟨w.heap.size + 1 + 1 + 1 + 1 + 1, 0, none⟩) (by show _ ≠ w.heap.size + 1 + 1 + 1 + 1 + 1; omega) (.bool false))
    have C2 := lh (RC.out.far (p := ⟨w.heap.size + 1 + 1 + 1 + 1 + 1, 0, none⟩) (by show _ ≠ w.heap.size + 1 + 1 + 1 + 1 + 1; omega) (.bool false))
    have K2 := lh (K.out.setCell (p := ⟨w.heap.size + 1 + 1 + 1 + 1 + 1, 0, none⟩) (by show w.heap.size ≤ w.heap.size + 1 + 1 + 1 + 1 + 1; omega) (.bool false))
    have D2 : Hid (Dfr (V202.setCell ⟨w.heap.size + 1 + 1 + 1 + 1 + 1, 0, none⟩ (.bool false)) D) := (Below.heap_setCell _ _ _ D (by show D ≠ w.heap.size + 1 + 1 + 1 + 1 + 1; omega)).trans DK.out
    clear DK RB K RP RC
    have DK := D2
    have RB := R2
    have K := K2
    have RP := P2
    have RC := C2
    clear D2 R2 K2 P2 C2
    go_wp2
    refine ⟨by simp, .inl ⟨_, _, rfl, run_takeDeferred DK.out, ?_⟩⟩
    have hbz := HBZ.out _ D _ (.deferred none) hD DK.out rfl rfl
    have RPz := RP.out.below hbz (by omega)
    have RCz := RC.out.below hbz (by omega)
    have RBz := RB.out.below hbz (by omega)
    have Kz := K.out.trans (hbz.mono hKs)
    exact ⟨_, results_cell3 6 7 8 51 46 4 _ _ _ _ _ _ rfl rfl rfl rfl (run_blk_load (P := Try.prog) 51 _ _ RPz Try.underlying51 rfl IP.out) (run_blk_load (P := Try.prog) 46 _ _ RCz Try.underlying46 rfl IC.out) (load4 RBz), by rw [HNN.out]; rfl, Kz⟩
  case stop =>
    rintro D cd l Wn hD ⟨kk, hkk, hl⟩ ⟨rfl, o, ho, hP, hC, hBb, hKk⟩ hK
    subst hact
    subst hl
    have HNN := lh (fst1_take f qf L kk o ho)
    have hRB := RB.out.lt
    have hKs := K.out.size
    have DK := lh (show Dfr Wn D from hK)
    have HBZ := lh (belowK_b (n₀ := Y1h1.heap.size) (w := Y1h1) (Nat.le_refl _))
    have K := lh hKk
    have RP := lh hP
    have RC := lh hC
    have RB := lh hBb
    clear ho hK CP CPL CG CQ hql HST PF PK hKk hP hC hBb HT TB FB BT BK BF FK
    gi_wp2
    refine ⟨by simp, .inl ⟨_, _, rfl, run_takeDeferred DK.out, ?_⟩⟩
    have hbz := HBZ.out Wn D _ (.deferred none) hD DK.out rfl rfl
    have RPz := RP.out.below hbz (by omega)
    have RCz := RC.out.below hbz (by omega)
    have RBz := RB.out.below hbz (by omega)
    have Kz := K.out.trans (hbz.mono hKs)
    exact ⟨_, results_cell3 6 7 8 51 46 4 _ _ _ _ _ _ rfl rfl rfl rfl (run_blk_load (P := Try.prog) 51 _ _ RPz Try.underlying51 rfl i51c) (run_blk_load (P := Try.prog) 46 _ _ RCz Try.underlying46 rfl i46c) (load4 RBz), by rw [HNN.out]; rfl, Kz⟩
end Go.Proofs.Ythldpnifodbheaa
