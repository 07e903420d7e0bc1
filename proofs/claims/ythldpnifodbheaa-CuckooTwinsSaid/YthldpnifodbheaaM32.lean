/- Texts that the walks of this seat lean on, put together. -/
import Derived.Deep.CutBlock
import Derived.Deep.DeepCutAuto
import Derived.LoopTactic
import Derived.Handy
import Derived.Test.YthldpnifodbheaaTk
import Derived.Test.YthldpnifodbheaaM19
import Derived.Test.YthldpnifodbheaaM24
import Derived.Test.YthldpnifodbheaaM25
import Derived.Test.YthldpnifodbheaaM28
import Derived.Test.YthldpnifodbheaaM31
namespace Go.Proofs.Ythldpnifodbheaa
open Go.RowKit Go.Lib
def tbC (F B : Nat) (ev : Int) : Array Value := #[.pointer (some ⟨F, 0, none⟩), .pointer (some ⟨B + 1, 0, none⟩), .int .i64 ev]
structure TS (tn fn B : Nat) (cf : Cf) (c : Nat → Option Se) (W : World) : Prop where
  T : Blk W tn 80 (tbC fn B cf.ev)
  F : Blk W fn 110 (famC cf)
  G : GdT B cf.st.toNat cf.sz.toNat c W
  hF : fn < B
  hT : B + 2 + cf.st.toNat ≤ tn
section
variable {tn fn B : Nat} {cf : Cf} {c : Nat → Option Se} {W W' : World}
theorem TS.lt (h : TS tn fn B cf c W) : tn < W.heap.size := h.T.lt
theorem TS.belowB {b : Nat} (h : TS tn fn B cf c W) (hb : Below b W W') (hl : tn < b) : TS tn fn B cf c W' :=
  ⟨h.T.below hb hl, h.F.below hb (by have := h.hF; have := h.hT; omega), h.G.belowB hb (by have := h.hT; omega), h.hF, h.hT⟩
theorem TS.below (h : TS tn fn B cf c W) (hb : Below W.heap.size W W') : TS tn fn B cf c W' := h.belowB hb h.lt
theorem TS.kept (h : TS tn fn B cf c W) (hk : ∀ k, k ≤ tn → W'.heap[k]? = W.heap[k]?) : TS tn fn B cf c W' :=
  ⟨(hk _ (Nat.le_refl _)).trans h.T, (hk _ (by have := h.hF; have := h.hT; omega)).trans h.F, h.G.kept fun k _ h2 => hk k (by have := h.hT; omega), h.hF, h.hT⟩
theorem TS.put {c' : Nat → Option Se} (h : TS tn fn B cf c W) (hg : GdT B cf.st.toNat cf.sz.toNat c' W') (ha : Apart B (2 + cf.st.toNat) W W') : TS tn fn B cf c' W' :=
  ⟨ha.blk h.T (by have := h.hT; omega), ha.blk h.F (by have := h.hF; omega), hg, h.hF, h.hT⟩
end
theorem tbC_get (F B : Nat) (ev : Int) : (tbC F B ev)[0]? = some (.pointer (some ⟨F, 0, none⟩)) ∧ (tbC F B ev)[1]? = some (.pointer (some ⟨B + 1, 0, none⟩)) ∧ (tbC F B ev)[2]? = some (.int .i64 ev) := ⟨rfl, rfl, rfl⟩
def hitsB (s : Se) (d : Nat) (v : Int) : Bool := decide (s.d = d) && decide (s.v = v)
theorem Se.ib (s : Se) : Hid ((Try.prog.info? 84).map (·.size) = some s.cs.size) := by show _ = _; rw [s.size]; exact i84
set_option maxRecDepth 100000 in
set_option maxHeartbeats 4000000 in
theorem hits_any (s : Se) (d : Nat) (v : Int) (w : World) :
    Calls Try.prog 35 #[.agg s.cs, .int .u16 (d : Int), .int .i64 v] w fun e w' => e = .returned (.bool (hitsB s d v)) ∧ Below w.heap.size w w' := by
  have K := Lib.hid (Below.refl w.heap.size w)
  obtain ⟨-, g1, g2, -⟩ := seC_get s.k s.fit true s.d s.v s.r
  have G1 := Lib.hid g1
  have G2 := Lib.hid g2
  have XI := s.ib
  unfold hitsB
  obtain ⟨xc, hxc⟩ : ∃ x, x = s.cs := ⟨_, rfl⟩
  change Hid (s.cs[38]? = _) at G1
  change Hid (s.cs[39]? = _) at G2
  rw [← hxc] at G1 G2 XI ⊢
  generalize s.d = sd at *
  generalize s.v = sv at *
  clear g1 g2 hxc
  by_cases h1 : sd = d
  · by_cases h2 : sv = v
    · skip
      have q1 : (((sd : Nat) : Int) == ((d : Nat) : Int)) = true := beq_iff_eq.mpr (by omega)
      have q1b : (sd == d) = true := by simpa using h1
      rw [show decide (sd = d) = true from decide_eq_true h1]
      have q2 : (sv == v) = true := by simpa using h2
      rw [show decide (sv = v) = true from decide_eq_true h2]
      clear h1 h2
      go_enter Try.func35, Try.ntmps35
      have hal := (Below.refl w.heap.size w).alloc (Nat.le_refl _) (.cells xc 84)
      replace K := Lib.hid (K.out.trans (hal.mono K.out.size))
      have X := Lib.hid (Blk.new w 84 xc)
      clear hal
      have L1 := (X.out.cell 38).trans G1.out
      have L2 := (X.out.cell 39).trans G2.out
      go_wp2
      go_ret
      exact ⟨rfl, K.out⟩
    · skip
      have q1 : (((sd : Nat) : Int) == ((d : Nat) : Int)) = true := beq_iff_eq.mpr (by omega)
      have q1b : (sd == d) = true := by simpa using h1
      rw [show decide (sd = d) = true from decide_eq_true h1]
      have q2 : (sv == v) = false := by simpa using h2
      rw [show decide (sv = v) = false from decide_eq_false h2]
      clear h1 h2
      go_enter Try.func35, Try.ntmps35
      have hal := (Below.refl w.heap.size w).alloc (Nat.le_refl _) (.cells xc 84)
      replace K := Lib.hid (K.out.trans (hal.mono K.out.size))
      have X := Lib.hid (Blk.new w 84 xc)
      clear hal
      have L3 := (X.out.cell 38).trans G1.out
      have L4 := (X.out.cell 39).trans G2.out
      go_wp2
      go_ret
      exact ⟨rfl, K.out⟩
  · skip
    have q1 : (((sd : Nat) : Int) == ((d : Nat) : Int)) = false := beq_eq_false_iff_ne.mpr (by omega)
    have q1b : (sd == d) = false := by simpa using h1
    rw [show decide (sd = d) = false from decide_eq_false h1]
    clear h1
    go_enter Try.func35, Try.ntmps35
    have hal := (Below.refl w.heap.size w).alloc (Nat.le_refl _) (.cells xc 84)
    replace K := Lib.hid (K.out.trans (hal.mono K.out.size))
    have X := Lib.hid (Blk.new w 84 xc)
    clear hal
    have L5 := (X.out.cell 38).trans G1.out
    go_wp2
    go_ret
    exact ⟨rfl, K.out⟩
set_option maxRecDepth 100000 in
set_option maxHeartbeats 4000000 in
theorem lookF_any (s : Se) (d : Nat) (v : Int) (pd pv : Nat) (w : World) (hd : Boxed w pd 40 (.int .u16 (d : Int))) (hv : Boxed w pv 3 (.int .i64 v)) :
    Calls Try.prog 34 #[.agg s.cs, .pointer (some ⟨pd, 0, none⟩), .pointer (some ⟨pv, 0, none⟩)] w fun e w' => e = .returned (.bool (hitsB s d v)) ∧ Below w.heap.size w w' := by
  have K := Lib.hid (Below.refl w.heap.size w)
  have CH := Lib.hid (fun W => hits_any s d v W)
  have XI := s.ib
  have D := Lib.hid (show Blk w pd 40 #[.int .u16 (d : Int)] from hd)
  have V := Lib.hid (show Blk w pv 3 #[.int .i64 v] from hv)
  generalize s.cs = xc at *
  generalize hitsB s d v = q at *
  clear hd hv
  go_enter Try.func34, Try.ntmps34
  have hal := (Below.refl w.heap.size w).alloc (Nat.le_refl _) (.cells xc 84)
  replace K := Lib.hid (K.out.trans (hal.mono K.out.size))
  replace D := Lib.hid (D.out.below hal D.out.lt)
  replace V := Lib.hid (V.out.below hal V.out.lt)
  have X := Lib.hid (Blk.new w 84 xc)
  clear hal
  have l6 := D.out.cell 0
  have l7 := V.out.cell 0
  have L6 : (loadVar 84 ⟨w.heap.size, 0, none⟩).run Try.prog (w.alloc (.cells xc 84)) = .ok (.agg xc) (w.alloc (.cells xc 84)) := run_blk_load (P := Try.prog) 84 (w.heap.size) _ X.out Try.underlying84 rfl XI.out
  replace L6 := Lib.hid L6
  go_wp2_with (((with_reducible refine wpList_load_want (op := ⟨some 5, .load 84 (.tmp 3), _, _, _, _⟩) ?wg6 84 (.tmp 3) ?wo6 ⟨w.heap.size, 0, none⟩ ?wx6 (.agg xc) L6.out ?_); (case wg6 => rfl); (case wo6 => rfl); (case wx6 => rfl)))
  clear L6
  have hzV1 : Hid ((w.alloc (.cells xc 84)).heap.size = w.heap.size + 1) := by show _ = _; simp only [World.size_alloc]
  generalize (w.alloc (.cells xc 84)) = V1 at *
  refine (CH.out V1).mono ?_
  rintro e V2 ⟨rfl, hy⟩
  replace K := Lib.hid (K.out.trans (hy.mono K.out.size))
  replace D := Lib.hid (D.out.below hy D.out.lt)
  replace V := Lib.hid (V.out.below hy V.out.lt)
  replace X := Lib.hid (X.out.below hy X.out.lt)
  clear hy
  go_wp2
  go_ret
  exact ⟨rfl, K.out⟩
set_option maxRecDepth 100000 in
set_option maxHeartbeats 4000000 in
theorem findF_any (s : Se) (k : Fl) (hk : k.Fit) (pk : Nat) (w : World) (hb : Blk w pk 42 k.cs) :
    Calls Try.prog 44 #[.agg s.cs, .pointer (some ⟨pk, 0, none⟩)] w fun e w' => e = .returned (.bool (decide (s.k = k))) ∧ Below w.heap.size w w' := by
  have K := Lib.hid (Below.refl w.heap.size w)
  have EQ : Hid (∀ W, (Op.equalIn 10000 42 (.agg s.k.cs) (.agg k.cs)).run Try.prog W = .ok (decide (s.k = k)) W) := by
    intro W
    by_cases h : s.k = k
    · rw [decide_eq_true h, h]; exact eq_fl_yes k hk W
    · rw [decide_eq_false h]; exact eq_fl_no s.k k s.fit hk h W
  have XI := s.ib
  have KP := Lib.hid (seC_key s.k true s.d s.v s.r)
  change Hid ((s.cs.toList.drop 0).take s.k.cs.toList.length = _) at KP
  have KI := Lib.hid (fl_ik k hk)
  have KS : Hid ((Try.prog.info? 42).map (·.size) = some s.k.cs.toList.length) := by show _ = _; rw [Array.length_toList]; exact fl_ik s.k s.fit
  have P := Lib.hid hb
  generalize s.cs = xc at *
  generalize s.k.cs = sk at *
  generalize k.cs = kc at *
  generalize decide (s.k = k) = q at *
  clear hb
  go_enter Try.func44, Try.ntmps44
  have hal := (Below.refl w.heap.size w).alloc (Nat.le_refl _) (.cells xc 84)
  replace K := Lib.hid (K.out.trans (hal.mono K.out.size))
  replace P := Lib.hid (P.out.below hal P.out.lt)
  have X := Lib.hid (Blk.new w 84 xc)
  clear hal
  have hqe := EQ.out
  have L7 : (loadVar 42 ⟨w.heap.size, 0, none⟩).run Try.prog (w.alloc (.cells xc 84)) = .ok (.agg sk) (w.alloc (.cells xc 84)) := by have h := run_part_load (P := Try.prog) 42 0 sk.toList _ X.out KP.out Try.underlying42 rfl KS.out; rwa [Array.toArray_toList] at h
  replace L7 := Lib.hid L7
  have L8 : (loadVar 42 ⟨pk, 0, none⟩).run Try.prog (w.alloc (.cells xc 84)) = .ok (.agg kc) (w.alloc (.cells xc 84)) := run_blk_load (P := Try.prog) 42 (pk) _ P.out Try.underlying42 rfl KI.out
  replace L8 := Lib.hid L8
  go_wp2_with (first | ((with_reducible refine wpList_load_want (op := ⟨some 5, .load 42 (.tmp 4), _, _, _, _⟩) ?wg7 42 (.tmp 4) ?wo7 ⟨w.heap.size, 0, none⟩ ?wx7 (.agg sk) L7.out ?_); (case wg7 => rfl); (case wo7 => rfl); (case wx7 => rfl)) | ((with_reducible refine wpList_load_want (op := ⟨some 6, .load 42 (.tmp 1), _, _, _, _⟩) ?wg8 42 (.tmp 1) ?wo8 ⟨pk, 0, none⟩ ?wx8 (.agg kc) L8.out ?_); (case wg8 => rfl); (case wo8 => rfl); (case wx8 => rfl)))
  clear L7 L8
  go_ret
  exact ⟨rfl, K.out⟩
end Go.Proofs.Ythldpnifodbheaa
