/- Texts that the walks of this seat lean on, put together. -/
import Derived.Test.YtnpibdjfafpegaaTk
import Derived.Test.YtnpibdjfafpegaaM16
import Derived.Test.YtnpibdjfafpegaaM20
import Derived.Test.YtnpibdjfafpegaaM23
import Derived.Test.YtnpibdjfafpegaaM29
namespace Go.Proofs.Ytnpibdjfafpegaa
open Go.RowKit
theorem results_4 {P : Program} {fn : Func} {tmps : Array Value} {w : World} (p q r s : Nat) (t : TypeId) (b : Nat) (v : Value) (hres : fn.results = #[.tmp p, .cell q t, .tmp r, .tmp s])
    (hp : tmps.getD q undef = .pointer (some ⟨b, 0, none⟩)) (hl : (loadVar t ⟨b, 0, none⟩).run P w = .ok v w) : (results fn tmps).run P w = .ok (.tuple #[tmps.getD p undef, v, tmps.getD r undef, tmps.getD s undef]) w := by
  unfold results
  rw [hres]
  have hp' : tmps[q]?.getD undef = .pointer (some ⟨b, 0, none⟩) := by rw [← hp, Array.getD_eq_getD_getElem?]
  simp [asAddr, hp', hl, Array.mapM_eq_foldlM]
theorem results_3 {P : Program} {fn : Func} {tmps : Array Value} {w : World} (p q r : Nat) (t : TypeId) (b : Nat) (v : Value) (hres : fn.results = #[.tmp p, .cell q t, .tmp r])
    (hp : tmps.getD q undef = .pointer (some ⟨b, 0, none⟩)) (hl : (loadVar t ⟨b, 0, none⟩).run P w = .ok v w) : (results fn tmps).run P w = .ok (.tuple #[tmps.getD p undef, v, tmps.getD r undef]) w := by
  unfold results
  rw [hres]
  have hp' : tmps[q]?.getD undef = .pointer (some ⟨b, 0, none⟩) := by rw [← hp, Array.getD_eq_getD_getElem?]
  simp [asAddr, hp', hl, Array.mapM_eq_foldlM]
def opn (v : Bool) (P : List Nat) : Bool := decide (hH v ≤ P.length) && (decide (P.length - hH v ≤ capB v) && decide (hdM v (lA v P) (lB v P) (fP v P) (P.length - hH v) = P.take (hH v)))
theorem pcs_size (v : Bool) : (pcs v).size = 4 := rfl
theorem pcs_all (v : Bool) : (pcs v).all (·.oneCell') = true := by simp [pcs, Value.oneCell']
set_option maxRecDepth 100000 in
set_option maxHeartbeats 1000000 in
theorem open_short (x : Value) (P : List Nat) (v : Bool) (w : World) (h : Rd w x (nus .u8 P)) (hs : P.length < hH v) :
    Calls Try.prog 33 #[x, .bool v] w fun e w' => e = .returned (.tuple #[.int .u8 0, .agg z17, .slice none 0 0, .bool false]) ∧ Below w.heap.size w w' := by
  have K := Lib.hid (Below.refl w.heap.size w)
  obtain ⟨a, cap, rfl, hlc, hlm⟩ := rd_shape h
  have YP : Hid ((pcs v).size = Array.size (#[Value.int .i64 0, .int .i64 0, .int .i64 0, .int .i64 0] : Array Value)) := rfl
  have QP := Lib.hid (i88.trans (congrArg some (pcs_size v).symm))
  have AP := Lib.hid (pcs_all v)
  have Y0 : Hid (z17.size = Array.size (Zc17 : Array Value)) := rfl
  have Q0 := Lib.hid (i24.trans (congrArg some (show 17 = z17.size from rfl)))
  have A0 := Lib.hid z17_all
  have CP := Lib.hid (fun W => placesOf_any v W)
  have G3 := Lib.hid (show (pcs v)[3]? = some (.int .i64 (hH v : Nat)) from rfl)
  generalize pcs v = PC at *
  generalize hH v = pz at *
  generalize P.length = len at *
  clear h hlm hlc
  have hd : decide ((len : Int) < (pz : Int)) = true := by rw [decide_eq_true_iff]; omega
  go_enter Try.func33, Try.ntmps33
  have hal := (Below.refl w.heap.size w).alloc (Nat.le_refl _) (.cells Zc17 27)
  replace K := Lib.hid (K.out.trans (hal.mono K.out.size))
  have HT := Lib.hid (Blk.new w 27 Zc17)
  clear hal
  go_wp2_with fail
  have hzV1 : Hid ((w.alloc (.cells Zc17 27)).heap.size = w.heap.size + 1) := by show _ = _; simp only [World.size_alloc]
  generalize (w.alloc (.cells Zc17 27)) = V1 at *
  refine (CP.out V1).mono ?_
  rintro e V2 ⟨rfl, hy⟩
  replace K := Lib.hid (K.out.trans (hy.mono K.out.size))
  replace HT := Lib.hid (HT.out.below hy HT.out.lt)
  clear hy
  go_wp2_with (((with_reducible refine wpList_blk_store (op := ⟨none, .store 88 (.tmp 8) (.tmp 14), _, _, _, _⟩) ?sg1 88 (.tmp 8) (.tmp 14) ?so1 (V2.heap.size) PC ?sx1 ?sy1 (Blk.new V2 88 #[Value.int .i64 0, .int .i64 0, .int .i64 0, .int .i64 0]) YP.out QP.out AP.out ?_); (case sg1 => rfl); (case so1 => rfl); (case sx1 => rfl); (case sy1 => rfl)))
  have qHTHP : w.heap.size < V2.heap.size := HT.out.lt
  intro V3 hA hF hB
  have hy := ((Below.refl V2.heap.size V2).alloc (Nat.le_refl _) (.cells #[Value.int .i64 0, .int .i64 0, .int .i64 0, .int .i64 0] 88)).trans (hB _ (Nat.le_refl _))
  replace K := Lib.hid (K.out.trans (hy.mono K.out.size))
  replace HT := Lib.hid (HT.out.below hy HT.out.lt)
  have HP := Lib.hid hA
  clear hA hF hB hy
  have L2 := (HP.out.cell 3).trans G3.out
  go_wp2_with (((with_reducible refine wpList_blk_store (op := ⟨none, .store 27 (.tmp 5) (.tmp 20), _, _, _, _⟩) ?sg3 27 (.tmp 5) (.tmp 20) ?so3 (w.heap.size) z17 ?sx3 ?sy3 HT.out Y0.out Q0.out A0.out ?_); (case sg3 => rfl); (case so3 => rfl); (case sx3 => rfl); (case sy3 => rfl)))
  clear L2
  intro V4 hA hF hB
  replace K := Lib.hid (K.out.trans (hB _ (by omega)))
  replace HP := Lib.hid (show Blk _ _ _ _ from (hF _ (by omega)).trans HP.out)
  replace HT := Lib.hid hA
  clear hA hF hB
  go_wp2
  have hrun := run_blk_load (P := Try.prog) 27 w.heap.size _ HT.out Try.underlying27 rfl Q0.out
  exact bodyPost_ret (results_4 4 5 6 7 27 w.heap.size _ Try.results33 rfl hrun) rfl ⟨rfl, K.out⟩
theorem places_ok (v : Bool) : pP v < hH v ∧ pS v < pD v ∧ pD v < hH v := by cases v <;> decide
theorem lA_16 (v : Bool) (P : List Nat) (h : hH v ≤ P.length) : (lA v P).length = 16 := by
  cases v
  · have h : 20 ≤ P.length := h
    simp [lA]; omega
  · have h : 40 ≤ P.length := h
    simp [lA]; omega
theorem lB_16 (v : Bool) (P : List Nat) (h : hH v ≤ P.length) : (lB v P).length = 16 := by
  cases v
  · have h : 20 ≤ P.length := h
    simp [lB]; omega
  · have h : 40 ≤ P.length := h
    simp [lB]; omega
theorem fP_at (v : Bool) (P : List Nat) : P.getD (pP v) 0 = fP v P := by cases v <;> rfl
theorem headB_lt (v : Bool) (S D : List Nat) (p n : Nat) (hS : ∀ c ∈ S, c < 256) (hD : ∀ c ∈ D, c < 256) (hp : p < 256) : ∀ c ∈ headB v S D p n, c < 256 := by
  cases v with
  | true => exact mk6_lt S D p n hS hD hp
  | false =>
    have hS4 : ∀ c ∈ S.take 4, c < 256 := fun c hc => hS c (List.mem_of_mem_take hc)
    have hD4 : ∀ c ∈ D.take 4, c < 256 := fun c hc => hD c (List.mem_of_mem_take hc)
    have q := mk0_lt _ _ p n hS4 hD4 hp
    intro c hc
    have hc : c ∈ ov (mk0 (S.take 4) (D.take 4) p n) (bg 2 (ck (mk0 (S.take 4) (D.take 4) p n))) 10 := hc
    exact ov_lt _ _ _ q (fun c hc => bg_lt 2 _ c hc) c hc
theorem hdM_lt (v : Bool) (S D : List Nat) (p n : Nat) (hS : ∀ c ∈ S, c < 256) (hD : ∀ c ∈ D, c < 256) (hp : p < 256) : ∀ c ∈ hdM v S D p n, c < 256 := by
  unfold hdM
  split
  · exact headB_lt v S D p n hS hD hp
  · intro c hc; cases hc
theorem from_src (v : Bool) (P : List Nat) (va : Value) (w : World) (hr : Rd w va (nus .u8 (((P.take (hH v)).drop (pS v)).take (pD v - pS v)))) (h : hH v ≤ P.length) :
    Calls Try.prog 47 #[va] w fun e w' => e = .returned (.tuple #[adr v (lA v P), .int .i64 0]) ∧ Below w.heap.size w w' := by
  cases v with
  | true =>
    have h : 40 ≤ P.length := h
    have e : ((P.take (hH true)).drop (pS true)).take (pD true - pS true) = (P.drop 8).take 16 := by
      show ((P.take 40).drop 8).take 16 = _
      rw [List.drop_take, List.take_take]; rfl
    have hl : ((P.drop 8).take 16).length = 16 := by simp; omega
    have := from_ok va true ((P.drop 8).take 16) w (by rw [← e]; exact hr) (.inr ⟨hl, rfl⟩)
    rw [hl, Nat.sub_self, List.replicate_zero, List.append_nil] at this
    exact this
  | false =>
    have h : 20 ≤ P.length := h
    have e : ((P.take (hH false)).drop (pS false)).take (pD false - pS false) = (P.drop 12).take 4 := by
      show ((P.take 20).drop 12).take 4 = _
      rw [List.drop_take, List.take_take]; rfl
    have hl : ((P.drop 12).take 4).length = 4 := by simp; omega
    exact from_ok va false ((P.drop 12).take 4) w (by rw [← e]; exact hr) (.inl ⟨hl, rfl⟩)
theorem from_dst (v : Bool) (P : List Nat) (va : Value) (w : World) (hr : Rd w va (nus .u8 ((P.take (hH v)).drop (pD v)))) (h : hH v ≤ P.length) :
    Calls Try.prog 47 #[va] w fun e w' => e = .returned (.tuple #[adr v (lB v P), .int .i64 0]) ∧ Below w.heap.size w w' := by
  cases v with
  | true =>
    have h : 40 ≤ P.length := h
    have e : (P.take (hH true)).drop (pD true) = (P.drop 24).take 16 := by
      show (P.take 40).drop 24 = _
      rw [List.drop_take]
    have hl : ((P.drop 24).take 16).length = 16 := by simp; omega
    have := from_ok va true ((P.drop 24).take 16) w (by rw [← e]; exact hr) (.inr ⟨hl, rfl⟩)
    rw [hl, Nat.sub_self, List.replicate_zero, List.append_nil] at this
    exact this
  | false =>
    have h : 20 ≤ P.length := h
    have e : (P.take (hH false)).drop (pD false) = (P.drop 16).take 4 := by
      show (P.take 20).drop 16 = _
      rw [List.drop_take]
    have hl : ((P.drop 16).take 4).length = 4 := by simp; omega
    exact from_ok va false ((P.drop 16).take 4) w (by rw [← e]; exact hr) (.inl ⟨hl, rfl⟩)
set_option maxRecDepth 100000 in
set_option maxHeartbeats 2000000 in
theorem open_big (x : Value) (P : List Nat) (v : Bool) (w : World) (h : Rd w x (nus .u8 P)) (hb : ∀ c ∈ P, c < 256) (hz : P.length ≤ 70000) (hl : hH v ≤ P.length) (hn : ¬ P.length - hH v ≤ capB v) :
    Calls Try.prog 33 #[x, .bool v] w fun e w' => e = .returned (.tuple #[.int .u8 0, .agg z17, .slice none 0 0, .bool false]) ∧ Below w.heap.size w w' := by
  have K := Lib.hid (Below.refl w.heap.size w)
  have HR := Lib.hid h
  obtain ⟨a, cap, rfl, hlc, hlm⟩ := rd_shape h
  have h20 : 20 ≤ hH v := by unfold hH; split <;> omega
  obtain ⟨b, off, rfl, hc⟩ := h.cells (by omega)
  have HC := Lib.hid (fun W (h : Rd W (.slice (some ⟨b, off, none⟩) P.length cap) (nus .u8 P)) => by
    obtain ⟨b', off', e, hc⟩ := h.cells (by omega)
    simp only [Option.some.injEq, Addr.mk.injEq, and_true] at e
    obtain ⟨rfl, rfl⟩ := e
    exact hc)
  have YP : Hid ((pcs v).size = Array.size (#[Value.int .i64 0, .int .i64 0, .int .i64 0, .int .i64 0] : Array Value)) := rfl
  have QP := Lib.hid (i88.trans (congrArg some (pcs_size v).symm))
  have AP := Lib.hid (pcs_all v)
  have Y0 : Hid (z17.size = Array.size (Zc17 : Array Value)) := rfl
  have Q0 := Lib.hid (i24.trans (congrArg some (show 17 = z17.size from rfl)))
  have A0 := Lib.hid z17_all
  have CP := Lib.hid (fun W => placesOf_any v W)
  have G0 := Lib.hid (show (pcs v)[0]? = some (.int .i64 (pP v : Nat)) from rfl)
  have G1 := Lib.hid (show (pcs v)[1]? = some (.int .i64 (pS v : Nat)) from rfl)
  have G2 := Lib.hid (show (pcs v)[2]? = some (.int .i64 (pD v : Nat)) from rfl)
  have G3 := Lib.hid (show (pcs v)[3]? = some (.int .i64 (hH v : Nat)) from rfl)
  have hpl := places_ok v
  have hS16 := lA_16 v P hl
  have hD16 := lB_16 v P hl
  have hbS := lA_lt v P hb
  have hbD := lB_lt v P hb
  have hpr : fP v P < 256 := by unfold fP; split <;> exact getD_lt P hb _
  have hfp := fP_at v P
  have HFP := Lib.hid hfp
  have CH := Lib.hid (fun W => header_any v (lA v P) (lB v P) (fP v P) (P.length - hH v) W hS16 hD16 hbS hbD hpr)
  have CS := Lib.hid (fun W va h => from_src v P va W h hl)
  have CD := Lib.hid (fun W va h => from_dst v P va W h hl)
  have sS : (cellsA v (lA v P)).size = 17 := by rw [cellsA_size, hS16]
  have sD : (cellsA v (lB v P)).size = 17 := by rw [cellsA_size, hD16]
  have YS : Hid ((cellsA v (lA v P)).size = Array.size (Zc17 : Array Value)) := sS
  have YD : Hid ((cellsA v (lB v P)).size = Array.size (Zc17 : Array Value)) := sD
  have QS := Lib.hid (i24.trans (congrArg some sS.symm))
  have QD := Lib.hid (i24.trans (congrArg some sD.symm))
  have AS := Lib.hid (cellsA_all v (lA v P))
  have AD := Lib.hid (cellsA_all v (lB v P))
  have HOL : (P.take (hH v)).length = hH v := by rw [List.length_take]; omega
  have HOB : ∀ c ∈ P.take (hH v), c < 256 := fun c hc => hb c (List.mem_of_mem_take hc)
  have HMB := hdM_lt v (lA v P) (lB v P) (fP v P) (P.length - hH v) hbS hbD hpr
  have CE := Lib.hid (fun W v1 v2 h1 h2 => equal_any v1 v2 (hdM v (lA v P) (lB v P) (fP v P) (P.length - hH v)) (P.take (hH v)) W h1 h2 HMB HOB)
  have R1 := Lib.hid (h.front (hH v) hl)
  have R2 := Lib.hid (subP h (hH v) (P.length - hH v) (by omega))
  have R3 := Lib.hid (Rd.sub (R1.out) (pS v) (pD v - pS v) (by omega))
  have R4 := Lib.hid (Rd.sub (R1.out) (pD v) (hH v - pD v) (by omega))
  rw [List.take_of_length_le (by rw [List.length_drop]; omega)] at R2
  rw [List.take_of_length_le (by rw [List.length_drop, HOL]; omega)] at R4
  rw [decide_eq_false hn] at CH
  clear hn
  unfold adr at CH CS CD
  generalize hdM v (lA v P) (lB v P) (fP v P) (P.length - hH v) = MM at *
  clear hS16 hD16 hbS hbD hpr sS sD HMB hfp hc h hb HOB HOL
  generalize cellsA v (lA v P) = SA at *
  generalize cellsA v (lB v P) = DA at *
  have Y0b : Hid (z17.size = DA.size) := Y0.out.trans YD.out.symm
  generalize ((P.take (hH v)).drop (pS v)).take (pD v - pS v) = SP at *
  generalize (P.take (hH v)).drop (pD v) = DP at *
  generalize P.take (hH v) = OP at *
  generalize P.drop (hH v) = KP at *
  generalize pcs v = PC at *
  generalize hH v = pz at *
  generalize pP v = pp at *
  generalize pS v = ps at *
  generalize pD v = pd at *
  generalize fP v P = pr at *
  generalize capB v = cb at *
  generalize P.length = len at *
  obtain ⟨P2, hP2⟩ : ∃ x, x = (if cap = pz then some (⟨b, off, none⟩ : Addr) else some ⟨b, off + pz, none⟩) := ⟨_, rfl⟩
  rw [← hP2] at R2
  have HP2 := Lib.hid hP2
  generalize hm : len - pz = m at *
  have HM := Lib.hid hm
  obtain ⟨p1, p2, p3⟩ := hpl
  have hcs : ¬ cap = ps := by omega
  have hcd : ¬ cap = pd := by omega
  have hd : decide ((len : Int) < (pz : Int)) = false := by rw [decide_eq_false_iff_not]; omega
  unfold maxLen at hlm
  clear hP2
  go_enter Try.func33, Try.ntmps33
  have hal := (Below.refl w.heap.size w).alloc (Nat.le_refl _) (.cells Zc17 27)
  replace K := Lib.hid (K.out.trans (hal.mono K.out.size))
  have HT := Lib.hid (Blk.new w 27 Zc17)
  clear hal
  go_wp2_with fail
  have hzV1 : Hid ((w.alloc (.cells Zc17 27)).heap.size = w.heap.size + 1) := by show _ = _; simp only [World.size_alloc]
  generalize (w.alloc (.cells Zc17 27)) = V1 at *
  refine (CP.out V1).mono ?_
  rintro e V2 ⟨rfl, hy⟩
  replace K := Lib.hid (K.out.trans (hy.mono K.out.size))
  replace HT := Lib.hid (HT.out.below hy HT.out.lt)
  clear hy
  go_wp2_with (((with_reducible refine wpList_blk_store (op := ⟨none, .store 88 (.tmp 8) (.tmp 14), _, _, _, _⟩) ?sg4 88 (.tmp 8) (.tmp 14) ?so4 (V2.heap.size) PC ?sx4 ?sy4 (Blk.new V2 88 #[Value.int .i64 0, .int .i64 0, .int .i64 0, .int .i64 0]) YP.out QP.out AP.out ?_); (case sg4 => rfl); (case so4 => rfl); (case sx4 => rfl); (case sy4 => rfl)))
  have qHTHP : w.heap.size < V2.heap.size := HT.out.lt
  intro V3 hA hF hB
  have hy := ((Below.refl V2.heap.size V2).alloc (Nat.le_refl _) (.cells #[Value.int .i64 0, .int .i64 0, .int .i64 0, .int .i64 0] 88)).trans (hB _ (Nat.le_refl _))
  replace K := Lib.hid (K.out.trans (hy.mono K.out.size))
  replace HT := Lib.hid (HT.out.below hy HT.out.lt)
  have HP := Lib.hid hA
  clear hA hF hB hy
  have L5 := (HP.out.cell 3).trans G3.out
  go_wp2_with fail
  clear L5
  refine wp_region_held (S := (fun w' : World => Below (V3.heap.size) V3 w')) (by kernel_rfl) ?_
  change wpAnyH _ _ _ _ _ _ _ _ V3.drew
  have hy : Below V3.heap.size V3 V3.drew := (Below.refl _ _).drew
  have hE0 : Below (V3.heap.size) V3 V3.drew := (Below.refl _ _).drew
  clear hy
  generalize V3.drew = Y4x0 at hE0  ⊢
  have E0 := Lib.hid hE0
  clear hE0
  refine tkA 0 (?_) ?_ E0.out ?_
  rotate_left
  · (intro w1 hS; go_simp; try with_reducible rfl)
  simp only [Act.put, tS1, tS2, tS3]
  refine tkA 1 (?_) ?_ E0.out ?_
  rotate_left
  · (intro w1 hS; go_simp; try with_reducible rfl)
  simp only [Act.put, tS1, tS2, tS3]
  refine tkA 2 (?_) ?_ E0.out ?_
  rotate_left
  · (intro w1 hS; have hW := hS; have q := ((HP.out.below hW HP.out.lt).cell 3).trans G3.out; clear hW hS; go_simp; try with_reducible rfl)
  simp only [Act.put, tS1, tS2, tS3]
  refine tkA 3 (?_) ?_ E0.out ?_
  rotate_left
  · (intro w1 hS; have hW := hS; have q : (pz : Int) ≤ (cap : Int) := (by omega); clear hW hS; go_simp; try with_reducible rfl)
  simp only [Act.put, tS1, tS2, tS3]
  refine tkA 4 (?_) ?_ E0.out ?_
  rotate_left
  · (intro w1 hS; go_simp; try with_reducible rfl)
  simp only [Act.put, tS1, tS2, tS3]
  refine tkA 5 (?_) ?_ E0.out ?_
  rotate_left
  · (intro w1 hS; go_simp; try with_reducible rfl)
  simp only [Act.put, tS1, tS2, tS3]
  refine tkA 6 (?_) ?_ E0.out ?_
  rotate_left
  · (intro w1 hS; have hW := hS; have q := ((HP.out.below hW HP.out.lt).cell 3).trans G3.out; clear hW hS; go_simp; try with_reducible rfl)
  simp only [Act.put, tS1, tS2, tS3]
  refine tkA 7 (?_) ?_ E0.out ?_
  rotate_left
  · (intro w1 hS; have hW := hS; have q : (pz : Int) ≤ (len : Int) := (by omega); have q2 := HP2.out.symm; clear hW hS; go_simp; try with_reducible rfl)
  simp only [Act.put, tS1, tS2, tS3]
  refine tkA 8 (?_) ?_ E0.out ?_
  rotate_left
  · (intro w1 hS; go_simp; try with_reducible rfl)
  simp only [Act.put, tS1, tS2, tS3]
  refine tkA 9 (?_) ?_ E0.out ?_
  rotate_left
  · (intro w1 hS; go_simp; try with_reducible rfl)
  simp only [Act.put, tS1, tS2, tS3]
  refine wpAnyH_done (by kernel_rfl) ?_ _
  have hy := E0.out
  replace K := Lib.hid (K.out.trans (hy.mono K.out.size))
  replace HT := Lib.hid (HT.out.below hy HT.out.lt)
  replace HP := Lib.hid (HP.out.below hy HP.out.lt)
  clear hy E0
  have c5 := HC.out _ (HR.out.below K.out) pp (by omega)
  rw [HFP.out] at c5
  have q1 : (ps : Int) ≤ (pd : Int) := by omega
  have q2 : (pd : Int) ≤ (cap : Int) := by omega
  have L6 := (HP.out.cell 0).trans G0.out
  have L7 := (HP.out.cell 1).trans G1.out
  have L8 := (HP.out.cell 2).trans G2.out
  go_wp2_with fail
  clear L6 L7 L8
  refine (CS.out Y4x0 _ (R3.out.below K.out)).mono ?_
  rintro e V4 ⟨rfl, hy⟩
  replace K := Lib.hid (K.out.trans (hy.mono K.out.size))
  replace HT := Lib.hid (HT.out.below hy HT.out.lt)
  replace HP := Lib.hid (HP.out.below hy HP.out.lt)
  clear hy
  go_wp2_with (((with_reducible refine wpList_blk_store (op := ⟨none, .store 27 (.tmp 10) (.tmp 42), _, _, _, _⟩) ?sg9 27 (.tmp 10) (.tmp 42) ?so9 (V4.heap.size) SA ?sx9 ?sy9 (Blk.new V4 27 Zc17) YS.out QS.out AS.out ?_); (case sg9 => rfl); (case so9 => rfl); (case sx9 => rfl); (case sy9 => rfl)))
  have qHTHS : w.heap.size < V4.heap.size := HT.out.lt
  have qHPHS : V2.heap.size < V4.heap.size := HP.out.lt
  intro V5 hA hF hB
  have hy := ((Below.refl V4.heap.size V4).alloc (Nat.le_refl _) (.cells Zc17 27)).trans (hB _ (Nat.le_refl _))
  replace K := Lib.hid (K.out.trans (hy.mono K.out.size))
  replace HT := Lib.hid (HT.out.below hy HT.out.lt)
  replace HP := Lib.hid (HP.out.below hy HP.out.lt)
  have HS := Lib.hid hA
  clear hA hF hB hy
  clear c5 q1
  have q1 : (pd : Int) ≤ (pz : Int) := by omega
  have L10 := (HP.out.cell 2).trans G2.out
  go_wp2_with fail
  clear L10
  refine (CD.out V5 _ (R4.out.below K.out)).mono ?_
  rintro e V6 ⟨rfl, hy⟩
  replace K := Lib.hid (K.out.trans (hy.mono K.out.size))
  replace HT := Lib.hid (HT.out.below hy HT.out.lt)
  replace HP := Lib.hid (HP.out.below hy HP.out.lt)
  replace HS := Lib.hid (HS.out.below hy HS.out.lt)
  clear hy
  go_wp2_with (((with_reducible refine wpList_blk_store (op := ⟨none, .store 27 (.tmp 5) (.tmp 50), _, _, _, _⟩) ?sg11 27 (.tmp 5) (.tmp 50) ?so11 (w.heap.size) DA ?sx11 ?sy11 HT.out YD.out QD.out AD.out ?_); (case sg11 => rfl); (case so11 => rfl); (case sx11 => rfl); (case sy11 => rfl)))
  intro V7 hA hF hB
  replace K := Lib.hid (K.out.trans (hB _ (by omega)))
  replace HP := Lib.hid (show Blk _ _ _ _ from (hF _ (by omega)).trans HP.out)
  replace HS := Lib.hid (show Blk _ _ _ _ from (hF _ (by omega)).trans HS.out)
  replace HT := Lib.hid hA
  clear hA hF hB
  have L12 : (loadVar 27 ⟨V4.heap.size, 0, none⟩).run Try.prog V7 = .ok (.agg SA) V7 := run_blk_load (P := Try.prog) 27 (V4.heap.size) _ HS.out Try.underlying27 rfl QS.out
  replace L12 := Lib.hid L12
  have L13 : (loadVar 27 ⟨w.heap.size, 0, none⟩).run Try.prog V7 = .ok (.agg DA) V7 := run_blk_load (P := Try.prog) 27 (w.heap.size) _ HT.out Try.underlying27 rfl QD.out
  replace L13 := Lib.hid L13
  go_wp2_with (first | ((with_reducible refine wpList_load_want (op := ⟨some 53, .load 27 (.tmp 10), _, _, _, _⟩) ?wg12 27 (.tmp 10) ?wo12 ⟨V4.heap.size, 0, none⟩ ?wx12 (.agg SA) L12.out ?_); (case wg12 => rfl); (case wo12 => rfl); (case wx12 => rfl)) | ((with_reducible refine wpList_load_want (op := ⟨some 54, .load 27 (.tmp 5), _, _, _, _⟩) ?wg13 27 (.tmp 5) ?wo13 ⟨w.heap.size, 0, none⟩ ?wx13 (.agg DA) L13.out ?_); (case wg13 => rfl); (case wo13 => rfl); (case wx13 => rfl)))
  clear L12 L13
  refine (CH.out V7).mono ?_
  rintro e V8 ⟨y, rfl, ry, hy⟩
  replace K := Lib.hid (K.out.trans (hy.mono K.out.size))
  replace HT := Lib.hid (HT.out.below hy HT.out.lt)
  replace HP := Lib.hid (HP.out.below hy HP.out.lt)
  replace HS := Lib.hid (HS.out.below hy HS.out.lt)
  have RY := Lib.hid (ry)
  clear ry
  clear hy
  go_wp2_with (((with_reducible refine wpList_blk_store (op := ⟨none, .store 27 (.tmp 5) (.tmp 69), _, _, _, _⟩) ?sg14 27 (.tmp 5) (.tmp 69) ?so14 (w.heap.size) z17 ?sx14 ?sy14 HT.out Y0b.out Q0.out A0.out ?_); (case sg14 => rfl); (case so14 => rfl); (case sx14 => rfl); (case sy14 => rfl)))
  intro V9 hA hF hB
  replace K := Lib.hid (K.out.trans (hB _ (by omega)))
  replace HP := Lib.hid (show Blk _ _ _ _ from (hF _ (by omega)).trans HP.out)
  replace HS := Lib.hid (show Blk _ _ _ _ from (hF _ (by omega)).trans HS.out)
  replace HT := Lib.hid hA
  clear hA hF hB
  go_wp2
  have hrun := run_blk_load (P := Try.prog) 27 w.heap.size _ HT.out Try.underlying27 rfl Q0.out
  exact bodyPost_ret (results_4 4 5 6 7 27 w.heap.size _ Try.results33 rfl hrun) rfl ⟨rfl, K.out⟩
set_option maxRecDepth 100000 in
set_option maxHeartbeats 2000000 in
theorem open_off (x : Value) (P : List Nat) (v : Bool) (w : World) (h : Rd w x (nus .u8 P)) (hb : ∀ c ∈ P, c < 256) (hz : P.length ≤ 70000) (hl : hH v ≤ P.length) (hn : P.length - hH v ≤ capB v) (hq : hdM v (lA v P) (lB v P) (fP v P) (P.length - hH v) ≠ P.take (hH v)) :
    Calls Try.prog 33 #[x, .bool v] w fun e w' => e = .returned (.tuple #[.int .u8 0, .agg z17, .slice none 0 0, .bool false]) ∧ Below w.heap.size w w' := by
  have K := Lib.hid (Below.refl w.heap.size w)
  have HR := Lib.hid h
  obtain ⟨a, cap, rfl, hlc, hlm⟩ := rd_shape h
  have h20 : 20 ≤ hH v := by unfold hH; split <;> omega
  obtain ⟨b, off, rfl, hc⟩ := h.cells (by omega)
  have HC := Lib.hid (fun W (h : Rd W (.slice (some ⟨b, off, none⟩) P.length cap) (nus .u8 P)) => by
    obtain ⟨b', off', e, hc⟩ := h.cells (by omega)
    simp only [Option.some.injEq, Addr.mk.injEq, and_true] at e
    obtain ⟨rfl, rfl⟩ := e
    exact hc)
  have YP : Hid ((pcs v).size = Array.size (#[Value.int .i64 0, .int .i64 0, .int .i64 0, .int .i64 0] : Array Value)) := rfl
  have QP := Lib.hid (i88.trans (congrArg some (pcs_size v).symm))
  have AP := Lib.hid (pcs_all v)
  have Y0 : Hid (z17.size = Array.size (Zc17 : Array Value)) := rfl
  have Q0 := Lib.hid (i24.trans (congrArg some (show 17 = z17.size from rfl)))
  have A0 := Lib.hid z17_all
  have CP := Lib.hid (fun W => placesOf_any v W)
  have G0 := Lib.hid (show (pcs v)[0]? = some (.int .i64 (pP v : Nat)) from rfl)
  have G1 := Lib.hid (show (pcs v)[1]? = some (.int .i64 (pS v : Nat)) from rfl)
  have G2 := Lib.hid (show (pcs v)[2]? = some (.int .i64 (pD v : Nat)) from rfl)
  have G3 := Lib.hid (show (pcs v)[3]? = some (.int .i64 (hH v : Nat)) from rfl)
  have hpl := places_ok v
  have hS16 := lA_16 v P hl
  have hD16 := lB_16 v P hl
  have hbS := lA_lt v P hb
  have hbD := lB_lt v P hb
  have hpr : fP v P < 256 := by unfold fP; split <;> exact getD_lt P hb _
  have hfp := fP_at v P
  have HFP := Lib.hid hfp
  have CH := Lib.hid (fun W => header_any v (lA v P) (lB v P) (fP v P) (P.length - hH v) W hS16 hD16 hbS hbD hpr)
  have CS := Lib.hid (fun W va h => from_src v P va W h hl)
  have CD := Lib.hid (fun W va h => from_dst v P va W h hl)
  have sS : (cellsA v (lA v P)).size = 17 := by rw [cellsA_size, hS16]
  have sD : (cellsA v (lB v P)).size = 17 := by rw [cellsA_size, hD16]
  have YS : Hid ((cellsA v (lA v P)).size = Array.size (Zc17 : Array Value)) := sS
  have YD : Hid ((cellsA v (lB v P)).size = Array.size (Zc17 : Array Value)) := sD
  have QS := Lib.hid (i24.trans (congrArg some sS.symm))
  have QD := Lib.hid (i24.trans (congrArg some sD.symm))
  have AS := Lib.hid (cellsA_all v (lA v P))
  have AD := Lib.hid (cellsA_all v (lB v P))
  have HOL : (P.take (hH v)).length = hH v := by rw [List.length_take]; omega
  have HOB : ∀ c ∈ P.take (hH v), c < 256 := fun c hc => hb c (List.mem_of_mem_take hc)
  have HMB := hdM_lt v (lA v P) (lB v P) (fP v P) (P.length - hH v) hbS hbD hpr
  have CE := Lib.hid (fun W v1 v2 h1 h2 => equal_any v1 v2 (hdM v (lA v P) (lB v P) (fP v P) (P.length - hH v)) (P.take (hH v)) W h1 h2 HMB HOB)
  have R1 := Lib.hid (h.front (hH v) hl)
  have R2 := Lib.hid (subP h (hH v) (P.length - hH v) (by omega))
  have R3 := Lib.hid (Rd.sub (R1.out) (pS v) (pD v - pS v) (by omega))
  have R4 := Lib.hid (Rd.sub (R1.out) (pD v) (hH v - pD v) (by omega))
  rw [List.take_of_length_le (by rw [List.length_drop]; omega)] at R2
  rw [List.take_of_length_le (by rw [List.length_drop, HOL]; omega)] at R4
  rw [decide_eq_true hn] at CH
  rw [decide_eq_false hq] at CE
  clear hn hq
  unfold adr at CH CS CD
  generalize hdM v (lA v P) (lB v P) (fP v P) (P.length - hH v) = MM at *
  clear hS16 hD16 hbS hbD hpr sS sD HMB hfp hc h hb HOB HOL
  generalize cellsA v (lA v P) = SA at *
  generalize cellsA v (lB v P) = DA at *
  have Y0b : Hid (z17.size = DA.size) := Y0.out.trans YD.out.symm
  generalize ((P.take (hH v)).drop (pS v)).take (pD v - pS v) = SP at *
  generalize (P.take (hH v)).drop (pD v) = DP at *
  generalize P.take (hH v) = OP at *
  generalize P.drop (hH v) = KP at *
  generalize pcs v = PC at *
  generalize hH v = pz at *
  generalize pP v = pp at *
  generalize pS v = ps at *
  generalize pD v = pd at *
  generalize fP v P = pr at *
  generalize capB v = cb at *
  generalize P.length = len at *
  obtain ⟨P2, hP2⟩ : ∃ x, x = (if cap = pz then some (⟨b, off, none⟩ : Addr) else some ⟨b, off + pz, none⟩) := ⟨_, rfl⟩
  rw [← hP2] at R2
  have HP2 := Lib.hid hP2
  generalize hm : len - pz = m at *
  have HM := Lib.hid hm
  obtain ⟨p1, p2, p3⟩ := hpl
  have hcs : ¬ cap = ps := by omega
  have hcd : ¬ cap = pd := by omega
  have hd : decide ((len : Int) < (pz : Int)) = false := by rw [decide_eq_false_iff_not]; omega
  unfold maxLen at hlm
  clear hP2
  go_enter Try.func33, Try.ntmps33
  have hal := (Below.refl w.heap.size w).alloc (Nat.le_refl _) (.cells Zc17 27)
  replace K := Lib.hid (K.out.trans (hal.mono K.out.size))
  have HT := Lib.hid (Blk.new w 27 Zc17)
  clear hal
  go_wp2_with fail
  have hzV1 : Hid ((w.alloc (.cells Zc17 27)).heap.size = w.heap.size + 1) := by show _ = _; simp only [World.size_alloc]
  generalize (w.alloc (.cells Zc17 27)) = V1 at *
  refine (CP.out V1).mono ?_
  rintro e V2 ⟨rfl, hy⟩
  replace K := Lib.hid (K.out.trans (hy.mono K.out.size))
  replace HT := Lib.hid (HT.out.below hy HT.out.lt)
  clear hy
  go_wp2_with (((with_reducible refine wpList_blk_store (op := ⟨none, .store 88 (.tmp 8) (.tmp 14), _, _, _, _⟩) ?sg15 88 (.tmp 8) (.tmp 14) ?so15 (V2.heap.size) PC ?sx15 ?sy15 (Blk.new V2 88 #[Value.int .i64 0, .int .i64 0, .int .i64 0, .int .i64 0]) YP.out QP.out AP.out ?_); (case sg15 => rfl); (case so15 => rfl); (case sx15 => rfl); (case sy15 => rfl)))
  have qHTHP : w.heap.size < V2.heap.size := HT.out.lt
  intro V3 hA hF hB
  have hy := ((Below.refl V2.heap.size V2).alloc (Nat.le_refl _) (.cells #[Value.int .i64 0, .int .i64 0, .int .i64 0, .int .i64 0] 88)).trans (hB _ (Nat.le_refl _))
  replace K := Lib.hid (K.out.trans (hy.mono K.out.size))
  replace HT := Lib.hid (HT.out.below hy HT.out.lt)
  have HP := Lib.hid hA
  clear hA hF hB hy
  have L16 := (HP.out.cell 3).trans G3.out
  go_wp2_with fail
  clear L16
  refine wp_region_held (S := (fun w' : World => Below (V3.heap.size) V3 w')) (by kernel_rfl) ?_
  change wpAnyH _ _ _ _ _ _ _ _ V3.drew
  have hy : Below V3.heap.size V3 V3.drew := (Below.refl _ _).drew
  have hE0 : Below (V3.heap.size) V3 V3.drew := (Below.refl _ _).drew
  clear hy
  generalize V3.drew = Y4x0 at hE0  ⊢
  have E0 := Lib.hid hE0
  clear hE0
  refine tkA 0 (?_) ?_ E0.out ?_
  rotate_left
  · (intro w1 hS; go_simp; try with_reducible rfl)
  simp only [Act.put, tS1, tS2, tS3]
  refine tkA 1 (?_) ?_ E0.out ?_
  rotate_left
  · (intro w1 hS; go_simp; try with_reducible rfl)
  simp only [Act.put, tS1, tS2, tS3]
  refine tkA 2 (?_) ?_ E0.out ?_
  rotate_left
  · (intro w1 hS; have hW := hS; have q := ((HP.out.below hW HP.out.lt).cell 3).trans G3.out; clear hW hS; go_simp; try with_reducible rfl)
  simp only [Act.put, tS1, tS2, tS3]
  refine tkA 3 (?_) ?_ E0.out ?_
  rotate_left
  · (intro w1 hS; have hW := hS; have q : (pz : Int) ≤ (cap : Int) := (by omega); clear hW hS; go_simp; try with_reducible rfl)
  simp only [Act.put, tS1, tS2, tS3]
  refine tkA 4 (?_) ?_ E0.out ?_
  rotate_left
  · (intro w1 hS; go_simp; try with_reducible rfl)
  simp only [Act.put, tS1, tS2, tS3]
  refine tkA 5 (?_) ?_ E0.out ?_
  rotate_left
  · (intro w1 hS; go_simp; try with_reducible rfl)
  simp only [Act.put, tS1, tS2, tS3]
  refine tkA 6 (?_) ?_ E0.out ?_
  rotate_left
  · (intro w1 hS; have hW := hS; have q := ((HP.out.below hW HP.out.lt).cell 3).trans G3.out; clear hW hS; go_simp; try with_reducible rfl)
  simp only [Act.put, tS1, tS2, tS3]
  refine tkA 7 (?_) ?_ E0.out ?_
  rotate_left
  · (intro w1 hS; have hW := hS; have q : (pz : Int) ≤ (len : Int) := (by omega); have q2 := HP2.out.symm; clear hW hS; go_simp; try with_reducible rfl)
  simp only [Act.put, tS1, tS2, tS3]
  refine tkA 8 (?_) ?_ E0.out ?_
  rotate_left
  · (intro w1 hS; go_simp; try with_reducible rfl)
  simp only [Act.put, tS1, tS2, tS3]
  refine tkA 9 (?_) ?_ E0.out ?_
  rotate_left
  · (intro w1 hS; go_simp; try with_reducible rfl)
  simp only [Act.put, tS1, tS2, tS3]
  refine wpAnyH_done (by kernel_rfl) ?_ _
  have hy := E0.out
  replace K := Lib.hid (K.out.trans (hy.mono K.out.size))
  replace HT := Lib.hid (HT.out.below hy HT.out.lt)
  replace HP := Lib.hid (HP.out.below hy HP.out.lt)
  clear hy E0
  have c5 := HC.out _ (HR.out.below K.out) pp (by omega)
  rw [HFP.out] at c5
  have q1 : (ps : Int) ≤ (pd : Int) := by omega
  have q2 : (pd : Int) ≤ (cap : Int) := by omega
  have L17 := (HP.out.cell 0).trans G0.out
  have L18 := (HP.out.cell 1).trans G1.out
  have L19 := (HP.out.cell 2).trans G2.out
  go_wp2_with fail
  clear L17 L18 L19
  refine (CS.out Y4x0 _ (R3.out.below K.out)).mono ?_
  rintro e V4 ⟨rfl, hy⟩
  replace K := Lib.hid (K.out.trans (hy.mono K.out.size))
  replace HT := Lib.hid (HT.out.below hy HT.out.lt)
  replace HP := Lib.hid (HP.out.below hy HP.out.lt)
  clear hy
  go_wp2_with (((with_reducible refine wpList_blk_store (op := ⟨none, .store 27 (.tmp 10) (.tmp 42), _, _, _, _⟩) ?sg20 27 (.tmp 10) (.tmp 42) ?so20 (V4.heap.size) SA ?sx20 ?sy20 (Blk.new V4 27 Zc17) YS.out QS.out AS.out ?_); (case sg20 => rfl); (case so20 => rfl); (case sx20 => rfl); (case sy20 => rfl)))
  have qHTHS : w.heap.size < V4.heap.size := HT.out.lt
  have qHPHS : V2.heap.size < V4.heap.size := HP.out.lt
  intro V5 hA hF hB
  have hy := ((Below.refl V4.heap.size V4).alloc (Nat.le_refl _) (.cells Zc17 27)).trans (hB _ (Nat.le_refl _))
  replace K := Lib.hid (K.out.trans (hy.mono K.out.size))
  replace HT := Lib.hid (HT.out.below hy HT.out.lt)
  replace HP := Lib.hid (HP.out.below hy HP.out.lt)
  have HS := Lib.hid hA
  clear hA hF hB hy
  clear c5 q1
  have q1 : (pd : Int) ≤ (pz : Int) := by omega
  have L21 := (HP.out.cell 2).trans G2.out
  go_wp2_with fail
  clear L21
  refine (CD.out V5 _ (R4.out.below K.out)).mono ?_
  rintro e V6 ⟨rfl, hy⟩
  replace K := Lib.hid (K.out.trans (hy.mono K.out.size))
  replace HT := Lib.hid (HT.out.below hy HT.out.lt)
  replace HP := Lib.hid (HP.out.below hy HP.out.lt)
  replace HS := Lib.hid (HS.out.below hy HS.out.lt)
  clear hy
  go_wp2_with (((with_reducible refine wpList_blk_store (op := ⟨none, .store 27 (.tmp 5) (.tmp 50), _, _, _, _⟩) ?sg22 27 (.tmp 5) (.tmp 50) ?so22 (w.heap.size) DA ?sx22 ?sy22 HT.out YD.out QD.out AD.out ?_); (case sg22 => rfl); (case so22 => rfl); (case sx22 => rfl); (case sy22 => rfl)))
  intro V7 hA hF hB
  replace K := Lib.hid (K.out.trans (hB _ (by omega)))
  replace HP := Lib.hid (show Blk _ _ _ _ from (hF _ (by omega)).trans HP.out)
  replace HS := Lib.hid (show Blk _ _ _ _ from (hF _ (by omega)).trans HS.out)
  replace HT := Lib.hid hA
  clear hA hF hB
  have L23 : (loadVar 27 ⟨V4.heap.size, 0, none⟩).run Try.prog V7 = .ok (.agg SA) V7 := run_blk_load (P := Try.prog) 27 (V4.heap.size) _ HS.out Try.underlying27 rfl QS.out
  replace L23 := Lib.hid L23
  have L24 : (loadVar 27 ⟨w.heap.size, 0, none⟩).run Try.prog V7 = .ok (.agg DA) V7 := run_blk_load (P := Try.prog) 27 (w.heap.size) _ HT.out Try.underlying27 rfl QD.out
  replace L24 := Lib.hid L24
  go_wp2_with (first | ((with_reducible refine wpList_load_want (op := ⟨some 53, .load 27 (.tmp 10), _, _, _, _⟩) ?wg23 27 (.tmp 10) ?wo23 ⟨V4.heap.size, 0, none⟩ ?wx23 (.agg SA) L23.out ?_); (case wg23 => rfl); (case wo23 => rfl); (case wx23 => rfl)) | ((with_reducible refine wpList_load_want (op := ⟨some 54, .load 27 (.tmp 5), _, _, _, _⟩) ?wg24 27 (.tmp 5) ?wo24 ⟨w.heap.size, 0, none⟩ ?wx24 (.agg DA) L24.out ?_); (case wg24 => rfl); (case wo24 => rfl); (case wx24 => rfl)))
  clear L23 L24
  refine (CH.out V7).mono ?_
  rintro e V8 ⟨y, rfl, ry, hy⟩
  replace K := Lib.hid (K.out.trans (hy.mono K.out.size))
  replace HT := Lib.hid (HT.out.below hy HT.out.lt)
  replace HP := Lib.hid (HP.out.below hy HP.out.lt)
  replace HS := Lib.hid (HS.out.below hy HS.out.lt)
  have RY := Lib.hid (ry)
  clear ry
  clear hy
  go_wp2_with fail
  refine (CE.out V8 _ _ RY.out (R1.out.below K.out)).mono ?_
  rintro e V9 ⟨rfl, rfl⟩
  go_wp2_with (((with_reducible refine wpList_blk_store (op := ⟨none, .store 27 (.tmp 5) (.tmp 69), _, _, _, _⟩) ?sg25 27 (.tmp 5) (.tmp 69) ?so25 (w.heap.size) z17 ?sx25 ?sy25 HT.out Y0b.out Q0.out A0.out ?_); (case sg25 => rfl); (case so25 => rfl); (case sx25 => rfl); (case sy25 => rfl)))
  intro V10 hA hF hB
  replace K := Lib.hid (K.out.trans (hB _ (by omega)))
  replace HP := Lib.hid (show Blk _ _ _ _ from (hF _ (by omega)).trans HP.out)
  replace HS := Lib.hid (show Blk _ _ _ _ from (hF _ (by omega)).trans HS.out)
  replace HT := Lib.hid hA
  clear hA hF hB
  go_wp2
  have hrun := run_blk_load (P := Try.prog) 27 w.heap.size _ HT.out Try.underlying27 rfl Q0.out
  exact bodyPost_ret (results_4 4 5 6 7 27 w.heap.size _ Try.results33 rfl hrun) rfl ⟨rfl, K.out⟩
set_option maxRecDepth 100000 in
set_option maxHeartbeats 2000000 in
theorem open_yes (x : Value) (P : List Nat) (v : Bool) (w : World) (h : Rd w x (nus .u8 P)) (hb : ∀ c ∈ P, c < 256) (hz : P.length ≤ 70000) (hl : hH v ≤ P.length) (hn : P.length - hH v ≤ capB v) (hq : hdM v (lA v P) (lB v P) (fP v P) (P.length - hH v) = P.take (hH v)) :
    Calls Try.prog 33 #[x, .bool v] w fun e w' => ∃ y, e = .returned (.tuple #[.int .u8 (fP v P : Nat), adr v (lB v P), y, .bool true]) ∧ (∀ W0, Rd W0 x (nus .u8 P) → Rd W0 y (nus .u8 (P.drop (hH v)))) ∧ Below w.heap.size w w' := by
  have K := Lib.hid (Below.refl w.heap.size w)
  have HR := Lib.hid h
  obtain ⟨a, cap, rfl, hlc, hlm⟩ := rd_shape h
  have h20 : 20 ≤ hH v := by unfold hH; split <;> omega
  obtain ⟨b, off, rfl, hc⟩ := h.cells (by omega)
  have HC := Lib.hid (fun W (h : Rd W (.slice (some ⟨b, off, none⟩) P.length cap) (nus .u8 P)) => by
    obtain ⟨b', off', e, hc⟩ := h.cells (by omega)
    simp only [Option.some.injEq, Addr.mk.injEq, and_true] at e
    obtain ⟨rfl, rfl⟩ := e
    exact hc)
  have YP : Hid ((pcs v).size = Array.size (#[Value.int .i64 0, .int .i64 0, .int .i64 0, .int .i64 0] : Array Value)) := rfl
  have QP := Lib.hid (i88.trans (congrArg some (pcs_size v).symm))
  have AP := Lib.hid (pcs_all v)
  have Y0 : Hid (z17.size = Array.size (Zc17 : Array Value)) := rfl
  have Q0 := Lib.hid (i24.trans (congrArg some (show 17 = z17.size from rfl)))
  have A0 := Lib.hid z17_all
  have CP := Lib.hid (fun W => placesOf_any v W)
  have G0 := Lib.hid (show (pcs v)[0]? = some (.int .i64 (pP v : Nat)) from rfl)
  have G1 := Lib.hid (show (pcs v)[1]? = some (.int .i64 (pS v : Nat)) from rfl)
  have G2 := Lib.hid (show (pcs v)[2]? = some (.int .i64 (pD v : Nat)) from rfl)
  have G3 := Lib.hid (show (pcs v)[3]? = some (.int .i64 (hH v : Nat)) from rfl)
  have hpl := places_ok v
  have hS16 := lA_16 v P hl
  have hD16 := lB_16 v P hl
  have hbS := lA_lt v P hb
  have hbD := lB_lt v P hb
  have hpr : fP v P < 256 := by unfold fP; split <;> exact getD_lt P hb _
  have hfp := fP_at v P
  have HFP := Lib.hid hfp
  have CH := Lib.hid (fun W => header_any v (lA v P) (lB v P) (fP v P) (P.length - hH v) W hS16 hD16 hbS hbD hpr)
  have CS := Lib.hid (fun W va h => from_src v P va W h hl)
  have CD := Lib.hid (fun W va h => from_dst v P va W h hl)
  have sS : (cellsA v (lA v P)).size = 17 := by rw [cellsA_size, hS16]
  have sD : (cellsA v (lB v P)).size = 17 := by rw [cellsA_size, hD16]
  have YS : Hid ((cellsA v (lA v P)).size = Array.size (Zc17 : Array Value)) := sS
  have YD : Hid ((cellsA v (lB v P)).size = Array.size (Zc17 : Array Value)) := sD
  have QS := Lib.hid (i24.trans (congrArg some sS.symm))
  have QD := Lib.hid (i24.trans (congrArg some sD.symm))
  have AS := Lib.hid (cellsA_all v (lA v P))
  have AD := Lib.hid (cellsA_all v (lB v P))
  have HOL : (P.take (hH v)).length = hH v := by rw [List.length_take]; omega
  have HOB : ∀ c ∈ P.take (hH v), c < 256 := fun c hc => hb c (List.mem_of_mem_take hc)
  have HMB := hdM_lt v (lA v P) (lB v P) (fP v P) (P.length - hH v) hbS hbD hpr
  have CE := Lib.hid (fun W v1 v2 h1 h2 => equal_any v1 v2 (hdM v (lA v P) (lB v P) (fP v P) (P.length - hH v)) (P.take (hH v)) W h1 h2 HMB HOB)
  have R1 := Lib.hid (h.front (hH v) hl)
  have R2 := Lib.hid (subP h (hH v) (P.length - hH v) (by omega))
  have R3 := Lib.hid (Rd.sub (R1.out) (pS v) (pD v - pS v) (by omega))
  have R4 := Lib.hid (Rd.sub (R1.out) (pD v) (hH v - pD v) (by omega))
  rw [List.take_of_length_le (by rw [List.length_drop]; omega)] at R2
  rw [List.take_of_length_le (by rw [List.length_drop, HOL]; omega)] at R4
  rw [decide_eq_true hn] at CH
  rw [decide_eq_true hq] at CE
  clear hn hq
  unfold adr
  have RW : ∀ W0, Rd W0 (.slice (some ⟨b, off, none⟩) P.length cap) (nus .u8 P) → Rd W0 (.slice (if cap = hH v then some (⟨b, off, none⟩ : Addr) else some ⟨b, off + hH v, none⟩) (P.length - hH v) (cap - hH v)) (nus .u8 (P.drop (hH v))) := fun W0 h => by
    have q := subP h (hH v) (P.length - hH v) (by omega)
    rwa [List.take_of_length_le (by rw [List.length_drop]; omega)] at q
  unfold adr at CH CS CD
  generalize hdM v (lA v P) (lB v P) (fP v P) (P.length - hH v) = MM at *
  clear hS16 hD16 hbS hbD hpr sS sD HMB hfp hc h hb HOB HOL
  generalize cellsA v (lA v P) = SA at *
  generalize cellsA v (lB v P) = DA at *
  have Y0b : Hid (z17.size = DA.size) := Y0.out.trans YD.out.symm
  generalize ((P.take (hH v)).drop (pS v)).take (pD v - pS v) = SP at *
  generalize (P.take (hH v)).drop (pD v) = DP at *
  generalize P.take (hH v) = OP at *
  generalize P.drop (hH v) = KP at *
  generalize pcs v = PC at *
  generalize hH v = pz at *
  generalize pP v = pp at *
  generalize pS v = ps at *
  generalize pD v = pd at *
  generalize fP v P = pr at *
  generalize capB v = cb at *
  generalize P.length = len at *
  obtain ⟨P2, hP2⟩ : ∃ x, x = (if cap = pz then some (⟨b, off, none⟩ : Addr) else some ⟨b, off + pz, none⟩) := ⟨_, rfl⟩
  rw [← hP2] at R2
  have HP2 := Lib.hid hP2
  simp only [← hP2] at RW
  have RW := Lib.hid RW
  generalize hm : len - pz = m at *
  have HM := Lib.hid hm
  obtain ⟨p1, p2, p3⟩ := hpl
  have hcs : ¬ cap = ps := by omega
  have hcd : ¬ cap = pd := by omega
  have hd : decide ((len : Int) < (pz : Int)) = false := by rw [decide_eq_false_iff_not]; omega
  unfold maxLen at hlm
  clear hP2
  go_enter Try.func33, Try.ntmps33
  have hal := (Below.refl w.heap.size w).alloc (Nat.le_refl _) (.cells Zc17 27)
  replace K := Lib.hid (K.out.trans (hal.mono K.out.size))
  have HT := Lib.hid (Blk.new w 27 Zc17)
  clear hal
  go_wp2_with fail
  have hzV1 : Hid ((w.alloc (.cells Zc17 27)).heap.size = w.heap.size + 1) := by show _ = _; simp only [World.size_alloc]
  generalize (w.alloc (.cells Zc17 27)) = V1 at *
  refine (CP.out V1).mono ?_
  rintro e V2 ⟨rfl, hy⟩
  replace K := Lib.hid (K.out.trans (hy.mono K.out.size))
  replace HT := Lib.hid (HT.out.below hy HT.out.lt)
  clear hy
  go_wp2_with (((with_reducible refine wpList_blk_store (op := ⟨none, .store 88 (.tmp 8) (.tmp 14), _, _, _, _⟩) ?sg26 88 (.tmp 8) (.tmp 14) ?so26 (V2.heap.size) PC ?sx26 ?sy26 (Blk.new V2 88 #[Value.int .i64 0, .int .i64 0, .int .i64 0, .int .i64 0]) YP.out QP.out AP.out ?_); (case sg26 => rfl); (case so26 => rfl); (case sx26 => rfl); (case sy26 => rfl)))
  have qHTHP : w.heap.size < V2.heap.size := HT.out.lt
  intro V3 hA hF hB
  have hy := ((Below.refl V2.heap.size V2).alloc (Nat.le_refl _) (.cells #[Value.int .i64 0, .int .i64 0, .int .i64 0, .int .i64 0] 88)).trans (hB _ (Nat.le_refl _))
  replace K := Lib.hid (K.out.trans (hy.mono K.out.size))
  replace HT := Lib.hid (HT.out.below hy HT.out.lt)
  have HP := Lib.hid hA
  clear hA hF hB hy
  have L27 := (HP.out.cell 3).trans G3.out
  go_wp2_with fail
  clear L27
  refine wp_region_held (S := (fun w' : World => Below (V3.heap.size) V3 w')) (by kernel_rfl) ?_
  change wpAnyH _ _ _ _ _ _ _ _ V3.drew
  have hy : Below V3.heap.size V3 V3.drew := (Below.refl _ _).drew
  have hE0 : Below (V3.heap.size) V3 V3.drew := (Below.refl _ _).drew
  clear hy
  generalize V3.drew = Y4x0 at hE0  ⊢
  have E0 := Lib.hid hE0
  clear hE0
  refine tkA 0 (?_) ?_ E0.out ?_
  rotate_left
  · (intro w1 hS; go_simp; try with_reducible rfl)
  simp only [Act.put, tS1, tS2, tS3]
  refine tkA 1 (?_) ?_ E0.out ?_
  rotate_left
  · (intro w1 hS; go_simp; try with_reducible rfl)
  simp only [Act.put, tS1, tS2, tS3]
  refine tkA 2 (?_) ?_ E0.out ?_
  rotate_left
  · (intro w1 hS; have hW := hS; have q := ((HP.out.below hW HP.out.lt).cell 3).trans G3.out; clear hW hS; go_simp; try with_reducible rfl)
  simp only [Act.put, tS1, tS2, tS3]
  refine tkA 3 (?_) ?_ E0.out ?_
  rotate_left
  · (intro w1 hS; have hW := hS; have q : (pz : Int) ≤ (cap : Int) := (by omega); clear hW hS; go_simp; try with_reducible rfl)
  simp only [Act.put, tS1, tS2, tS3]
  refine tkA 4 (?_) ?_ E0.out ?_
  rotate_left
  · (intro w1 hS; go_simp; try with_reducible rfl)
  simp only [Act.put, tS1, tS2, tS3]
  refine tkA 5 (?_) ?_ E0.out ?_
  rotate_left
  · (intro w1 hS; go_simp; try with_reducible rfl)
  simp only [Act.put, tS1, tS2, tS3]
  refine tkA 6 (?_) ?_ E0.out ?_
  rotate_left
  · (intro w1 hS; have hW := hS; have q := ((HP.out.below hW HP.out.lt).cell 3).trans G3.out; clear hW hS; go_simp; try with_reducible rfl)
  simp only [Act.put, tS1, tS2, tS3]
  refine tkA 7 (?_) ?_ E0.out ?_
  rotate_left
  · (intro w1 hS; have hW := hS; have q : (pz : Int) ≤ (len : Int) := (by omega); have q2 := HP2.out.symm; clear hW hS; go_simp; try with_reducible rfl)
  simp only [Act.put, tS1, tS2, tS3]
  refine tkA 8 (?_) ?_ E0.out ?_
  rotate_left
  · (intro w1 hS; go_simp; try with_reducible rfl)
  simp only [Act.put, tS1, tS2, tS3]
  refine tkA 9 (?_) ?_ E0.out ?_
  rotate_left
  · (intro w1 hS; go_simp; try with_reducible rfl)
  simp only [Act.put, tS1, tS2, tS3]
  refine wpAnyH_done (by kernel_rfl) ?_ _
  have hy := E0.out
  replace K := Lib.hid (K.out.trans (hy.mono K.out.size))
  replace HT := Lib.hid (HT.out.below hy HT.out.lt)
  replace HP := Lib.hid (HP.out.below hy HP.out.lt)
  clear hy E0
  have c5 := HC.out _ (HR.out.below K.out) pp (by omega)
  rw [HFP.out] at c5
  have q1 : (ps : Int) ≤ (pd : Int) := by omega
  have q2 : (pd : Int) ≤ (cap : Int) := by omega
  have L28 := (HP.out.cell 0).trans G0.out
  have L29 := (HP.out.cell 1).trans G1.out
  have L30 := (HP.out.cell 2).trans G2.out
  go_wp2_with fail
  clear L28 L29 L30
  refine (CS.out Y4x0 _ (R3.out.below K.out)).mono ?_
  rintro e V4 ⟨rfl, hy⟩
  replace K := Lib.hid (K.out.trans (hy.mono K.out.size))
  replace HT := Lib.hid (HT.out.below hy HT.out.lt)
  replace HP := Lib.hid (HP.out.below hy HP.out.lt)
  clear hy
  go_wp2_with (((with_reducible refine wpList_blk_store (op := ⟨none, .store 27 (.tmp 10) (.tmp 42), _, _, _, _⟩) ?sg31 27 (.tmp 10) (.tmp 42) ?so31 (V4.heap.size) SA ?sx31 ?sy31 (Blk.new V4 27 Zc17) YS.out QS.out AS.out ?_); (case sg31 => rfl); (case so31 => rfl); (case sx31 => rfl); (case sy31 => rfl)))
  have qHTHS : w.heap.size < V4.heap.size := HT.out.lt
  have qHPHS : V2.heap.size < V4.heap.size := HP.out.lt
  intro V5 hA hF hB
  have hy := ((Below.refl V4.heap.size V4).alloc (Nat.le_refl _) (.cells Zc17 27)).trans (hB _ (Nat.le_refl _))
  replace K := Lib.hid (K.out.trans (hy.mono K.out.size))
  replace HT := Lib.hid (HT.out.below hy HT.out.lt)
  replace HP := Lib.hid (HP.out.below hy HP.out.lt)
  have HS := Lib.hid hA
  clear hA hF hB hy
  clear c5 q1
  have q1 : (pd : Int) ≤ (pz : Int) := by omega
  have L32 := (HP.out.cell 2).trans G2.out
  go_wp2_with fail
  clear L32
  refine (CD.out V5 _ (R4.out.below K.out)).mono ?_
  rintro e V6 ⟨rfl, hy⟩
  replace K := Lib.hid (K.out.trans (hy.mono K.out.size))
  replace HT := Lib.hid (HT.out.below hy HT.out.lt)
  replace HP := Lib.hid (HP.out.below hy HP.out.lt)
  replace HS := Lib.hid (HS.out.below hy HS.out.lt)
  clear hy
  go_wp2_with (((with_reducible refine wpList_blk_store (op := ⟨none, .store 27 (.tmp 5) (.tmp 50), _, _, _, _⟩) ?sg33 27 (.tmp 5) (.tmp 50) ?so33 (w.heap.size) DA ?sx33 ?sy33 HT.out YD.out QD.out AD.out ?_); (case sg33 => rfl); (case so33 => rfl); (case sx33 => rfl); (case sy33 => rfl)))
  intro V7 hA hF hB
  replace K := Lib.hid (K.out.trans (hB _ (by omega)))
  replace HP := Lib.hid (show Blk _ _ _ _ from (hF _ (by omega)).trans HP.out)
  replace HS := Lib.hid (show Blk _ _ _ _ from (hF _ (by omega)).trans HS.out)
  replace HT := Lib.hid hA
  clear hA hF hB
  have L34 : (loadVar 27 ⟨V4.heap.size, 0, none⟩).run Try.prog V7 = .ok (.agg SA) V7 := run_blk_load (P := Try.prog) 27 (V4.heap.size) _ HS.out Try.underlying27 rfl QS.out
  replace L34 := Lib.hid L34
  have L35 : (loadVar 27 ⟨w.heap.size, 0, none⟩).run Try.prog V7 = .ok (.agg DA) V7 := run_blk_load (P := Try.prog) 27 (w.heap.size) _ HT.out Try.underlying27 rfl QD.out
  replace L35 := Lib.hid L35
  go_wp2_with (first | ((with_reducible refine wpList_load_want (op := ⟨some 53, .load 27 (.tmp 10), _, _, _, _⟩) ?wg34 27 (.tmp 10) ?wo34 ⟨V4.heap.size, 0, none⟩ ?wx34 (.agg SA) L34.out ?_); (case wg34 => rfl); (case wo34 => rfl); (case wx34 => rfl)) | ((with_reducible refine wpList_load_want (op := ⟨some 54, .load 27 (.tmp 5), _, _, _, _⟩) ?wg35 27 (.tmp 5) ?wo35 ⟨w.heap.size, 0, none⟩ ?wx35 (.agg DA) L35.out ?_); (case wg35 => rfl); (case wo35 => rfl); (case wx35 => rfl)))
  clear L34 L35
  refine (CH.out V7).mono ?_
  rintro e V8 ⟨y, rfl, ry, hy⟩
  replace K := Lib.hid (K.out.trans (hy.mono K.out.size))
  replace HT := Lib.hid (HT.out.below hy HT.out.lt)
  replace HP := Lib.hid (HP.out.below hy HP.out.lt)
  replace HS := Lib.hid (HS.out.below hy HS.out.lt)
  have RY := Lib.hid (ry)
  clear ry
  clear hy
  go_wp2_with fail
  refine (CE.out V8 _ _ RY.out (R1.out.below K.out)).mono ?_
  rintro e V9 ⟨rfl, rfl⟩
  go_wp2_with fail
  refine wp_region_held (S := (fun w' : World => Below w.heap.size V8 w' ∧ Blk w' w.heap.size 27 DA)) (by kernel_rfl) ?_
  change wpAnyH _ _ _ _ _ _ _ _ V8.drew
  have HS0 : Hid (Below w.heap.size V8 V8.drew ∧ Blk V8.drew w.heap.size 27 DA) := ⟨(Below.refl _ _).drew, HT.out.drew⟩
  generalize V8.drew = Y0 at HS0 ⊢
  refine tkA 0 (?_) ?_ HS0.out ?_
  rotate_left
  · (intro w1 hS; go_simp; try with_reducible rfl)
  simp only [Act.put, tS1, tS2, tS3]
  refine tkA 1 (.agg DA) ?_ HS0.out ?_
  · (intro w1 hS; exact exec_load 27 (.tmp 5) rfl _ rfl _ (run_blk_load (P := Try.prog) 27 w.heap.size _ hS.2 Try.underlying27 rfl QD.out))
  simp only [Act.put, tS1, tS2, tS3]
  refine tkA 2 (?_) ?_ HS0.out ?_
  rotate_left
  · (intro w1 hS; go_simp; try with_reducible rfl)
  simp only [Act.put, tS1, tS2, tS3]
  refine tkA 3 (?_) ?_ HS0.out ?_
  rotate_left
  · (intro w1 hS; go_simp; try with_reducible rfl)
  simp only [Act.put, tS1, tS2, tS3]
  refine tkO 4 (fun KK hK => ?_)
  rw [if_pos (by rfl)]
  refine wp_blk_store 27 (.tmp 5) (.tmp 71) rfl DA rfl rfl HS0.out.2 rfl QD.out AD.out ?_
  intro Y1 hA hF hB
  have HS1 := Lib.hid (show Below w.heap.size V8 Y1 ∧ Blk Y1 w.heap.size 27 DA from ⟨HS0.out.1.trans (hB _ (Nat.le_refl _)), hA⟩)
  clear hA hF hB HS0
  refine hK.out _ _ HS1.out (fun _ => ?_)
  clear hK KK
  refine tkA 5 (?_) ?_ HS1.out ?_
  rotate_left
  · (intro w1 hS; go_simp; try with_reducible rfl)
  simp only [Act.put, tS1, tS2, tS3]
  refine tkA 6 (?_) ?_ HS1.out ?_
  rotate_left
  · (intro w1 hS; go_simp; try with_reducible rfl)
  simp only [Act.put, tS1, tS2, tS3]
  refine wpAnyH_done (by kernel_rfl) ?_ _
  replace K := Lib.hid (K.out.trans HS1.out.1)
  replace HT := Lib.hid HS1.out.2
  clear HS1
  go_wp2
  have hrun := run_blk_load (P := Try.prog) 27 w.heap.size _ HT.out Try.underlying27 rfl QD.out
  exact bodyPost_ret (results_4 4 5 6 7 27 w.heap.size _ Try.results33 rfl hrun) rfl ⟨_, rfl, RW.out, K.out⟩
end Go.Proofs.Ytnpibdjfafpegaa
