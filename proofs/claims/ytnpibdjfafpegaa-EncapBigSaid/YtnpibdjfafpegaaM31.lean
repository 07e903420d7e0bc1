/- Texts that the walks of this seat lean on, put together. -/
import Derived.Test.YtnpibdjfafpegaaTk
import Derived.Test.YtnpibdjfafpegaaM13
import Derived.Test.YtnpibdjfafpegaaM16
import Derived.Test.YtnpibdjfafpegaaM30
namespace Go.Proofs.Ytnpibdjfafpegaa
open Go.RowKit
theorem own_far {w w' : World} {base g n : Nat} {e : TypeId} {v : Value} {xs : List Value} (h : w.ownsRow base e 1 v n xs) (hg : g < base) (hF : ∀ k, k ≠ g → w'.heap[k]? = w.heap[k]?) : w'.ownsRow base e 1 v n xs := by
  refine ⟨h.1, ?_⟩
  rcases h.2 with h2 | ⟨g', cap, cur, h1, h2, h3, h4⟩
  · exact .inl h2
  · exact .inr ⟨g', cap, cur, h1, h2, (hF g' (by omega)).trans h3, h4⟩
theorem z17_same : Hid (z17.size = z17.size) := rfl
def hlB (Z : List Nat) (p : Nat) : Bool := decide (Z ≠ [] ∧ (p = 4 ∧ Z.getD 0 0 / 16 = 4 ∨ p = 41 ∧ Z.getD 0 0 / 16 = 6))
def inP (zs : List Nat) : List Nat := (pkt zs).drop (hH (sixF zs))
def outOk (zs : List Nat) : Bool := decide ((net zs).2.2 = 0) && (opn (sixF zs) (pkt zs) && hlB (inP zs) (fP (sixF zs) (pkt zs)))
def outA (zs : List Nat) : Array Value := if outOk zs then cellsA (sixF zs) (lB (sixF zs) (pkt zs)) else z17
def outL (zs : List Nat) : List Nat := if outOk zs then (zs.take ((net zs).1 - 2) ++ bg 2 (kN (decide (fP (sixF zs) (pkt zs) = 41)))) ++ inP zs else []
theorem open_no (x : Value) (P : List Nat) (v : Bool) (w : World) (h : Rd w x (nus .u8 P)) (hb : ∀ c ∈ P, c < 256) (hz : P.length ≤ 70000) (hn : opn v P = false) :
    Calls Try.prog 33 #[x, .bool v] w fun e w' => e = .returned (.tuple #[.int .u8 0, .agg z17, .slice none 0 0, .bool false]) ∧ Below w.heap.size w w' := by
  by_cases h1 : hH v ≤ P.length
  · by_cases h2 : P.length - hH v ≤ capB v
    · by_cases h3 : hdM v (lA v P) (lB v P) (fP v P) (P.length - hH v) = P.take (hH v)
      · unfold opn at hn
        rw [decide_eq_true h1, decide_eq_true h2, decide_eq_true h3] at hn
        cases hn
      · exact open_off x P v w h hb hz h1 h2 h3
    · exact open_big x P v w h hb hz h1 h2
  · exact open_short x P v w h (by omega)
set_option maxRecDepth 100000 in
set_option maxHeartbeats 1000000 in
theorem out_net (x : Value) (zs : List Nat) (w : World) (h : Rd w x (nus .u8 zs)) (hb : ∀ c ∈ zs, c < 256) (hn : (net zs).2.2 ≠ 0) :
    Calls Try.prog 13 #[x] w fun e w' => e = .returned (.tuple #[.slice none 0 0, .agg z17, .bool false]) ∧ Below w.heap.size w w' := by
  have K := Lib.hid (Below.refl w.heap.size w)
  have HR := Lib.hid h
  have CN := Lib.hid (fun W (h : Rd W x (nus .u8 zs)) => net_any x zs W h hb)
  obtain ⟨a, cap, rfl, hlc, hlm⟩ := rd_shape h
  have Y0 : Hid (z17.size = Array.size (Zc17 : Array Value)) := rfl
  have Q0 := Lib.hid (i24.trans (congrArg some (show 17 = z17.size from rfl)))
  have A0 := Lib.hid z17_all
  generalize (net zs).2.2 = r at *
  generalize (net zs).2.1 = k at *
  generalize (net zs).1 = n at *
  have g1 : ((r : Int) != 0) = true := by rw [bne_iff_ne]; omega
  clear h hb hn hlc hlm
  go_enter Try.func13, Try.ntmps13
  have hal := (Below.refl w.heap.size w).alloc (Nat.le_refl _) (.cells Zc17 27)
  replace K := Lib.hid (K.out.trans (hal.mono K.out.size))
  have HT := Lib.hid (Blk.new w 27 Zc17)
  clear hal
  go_wp2_with fail
  have hzV1 : Hid ((w.alloc (.cells Zc17 27)).heap.size = w.heap.size + 1) := by show _ = _; simp only [World.size_alloc]
  generalize (w.alloc (.cells Zc17 27)) = V1 at *
  refine (CN.out V1 (HR.out.below K.out)).mono ?_
  rintro e V2 ⟨rfl, rfl⟩
  go_wp2_with (((with_reducible refine wpList_blk_store (op := ⟨none, .store 27 (.tmp 3) (.tmp 18), _, _, _, _⟩) ?sg1 27 (.tmp 3) (.tmp 18) ?so1 (w.heap.size) z17 ?sx1 ?sy1 HT.out Y0.out Q0.out A0.out ?_); (case sg1 => rfl); (case so1 => rfl); (case sx1 => rfl); (case sy1 => rfl)))
  intro V3 hA hF hB
  replace K := Lib.hid (K.out.trans (hB _ (by omega)))
  replace HT := Lib.hid hA
  clear hA hF hB
  go_wp2
  have hrun := run_blk_load (P := Try.prog) 27 w.heap.size _ HT.out Try.underlying27 rfl Q0.out
  exact bodyPost_ret (results_3 2 3 4 27 w.heap.size _ Try.results13 rfl hrun) rfl ⟨rfl, K.out⟩
set_option maxRecDepth 100000 in
set_option maxHeartbeats 2000000 in
theorem out_off (x : Value) (zs : List Nat) (w : World) (h : Rd w x (nus .u8 zs)) (hb : ∀ c ∈ zs, c < 256) (hz : zs.length ≤ 70000) (hn : (net zs).2.2 = 0) (ho : opn (sixF zs) (pkt zs) = false) :
    Calls Try.prog 13 #[x] w fun e w' => e = .returned (.tuple #[.slice none 0 0, .agg z17, .bool false]) ∧ Below w.heap.size w w' := by
  have K := Lib.hid (Below.refl w.heap.size w)
  have HR := Lib.hid h
  have CN := Lib.hid (fun W (h : Rd W x (nus .u8 zs)) => net_any x zs W h hb)
  obtain ⟨a, cap, rfl, hlc, hlm⟩ := rd_shape h
  obtain ⟨h14, hnl, hk2⟩ := net_ok zs hn
  obtain ⟨b, off, rfl, -⟩ := h.cells (by omega)
  have hbP : ∀ c ∈ pkt zs, c < 256 := fun c hc => hb c (List.mem_of_mem_drop hc)
  have R2 := subP h (net zs).1 (zs.length - (net zs).1) (by omega)
  rw [List.take_of_length_le (by rw [List.length_drop]; exact Nat.le_refl _)] at R2
  replace R2 := Lib.hid (show Rd w _ (nus .u8 (pkt zs)) from R2)
  have hzP : (pkt zs).length ≤ 70000 := by simp [pkt]; omega
  have Y0 : Hid (z17.size = Array.size (Zc17 : Array Value)) := rfl
  have Q0 := Lib.hid (i24.trans (congrArg some (show 17 = z17.size from rfl)))
  have A0 := Lib.hid z17_all
  have e6 : (((net zs).2.1 : Int) == 34525) = sixF zs := by
    unfold sixF
    rcases hk2 with q | q <;> rw [q] <;> rfl
  have CO := Lib.hid (fun W v (h : Rd W v (nus .u8 (pkt zs))) => open_no v (pkt zs) (sixF zs) W h hbP hzP ho)
  clear ho
  rw [hn] at CN
  generalize hP2 : (if cap = (net zs).1 then some (⟨b, off, none⟩ : Addr) else some ⟨b, off + (net zs).1, none⟩) = P2 at *
  have HP2 := Lib.hid hP2
  unfold maxLen at hlm
  generalize pkt zs = P at *
  clear h hb hn hbP hP2 hk2
  generalize sixF zs = v at *
  generalize (net zs).2.1 = k at *
  generalize (net zs).1 = n at *
  generalize zs.length = len at *
  generalize hm : len - n = m at *
  have HM := Lib.hid hm
  go_enter Try.func13, Try.ntmps13
  have hal := (Below.refl w.heap.size w).alloc (Nat.le_refl _) (.cells Zc17 27)
  replace K := Lib.hid (K.out.trans (hal.mono K.out.size))
  have HT := Lib.hid (Blk.new w 27 Zc17)
  clear hal
  go_wp2_with fail
  have hzV1 : Hid ((w.alloc (.cells Zc17 27)).heap.size = w.heap.size + 1) := by show _ = _; simp only [World.size_alloc]
  generalize (w.alloc (.cells Zc17 27)) = V1 at *
  refine (CN.out V1 (HR.out.below K.out)).mono ?_
  rintro e V2 ⟨rfl, rfl⟩
  have q : (n : Int) ≤ (len : Int) := (by omega)
  have q2 := HP2.out
  go_wp2_with fail
  refine (CO.out V1 _ (R2.out.below K.out)).mono ?_
  rintro e V3 ⟨rfl, hy⟩
  replace K := Lib.hid (K.out.trans (hy.mono K.out.size))
  replace HT := Lib.hid (HT.out.below hy HT.out.lt)
  clear hy
  go_wp2_with (((with_reducible refine wpList_blk_store (op := ⟨none, .store 27 (.tmp 3) (.tmp 27), _, _, _, _⟩) ?sg2 27 (.tmp 3) (.tmp 27) ?so2 (w.heap.size) z17 ?sx2 ?sy2 HT.out Y0.out Q0.out A0.out ?_); (case sg2 => rfl); (case so2 => rfl); (case sx2 => rfl); (case sy2 => rfl)))
  intro V4 hA hF hB
  replace K := Lib.hid (K.out.trans (hB _ (by omega)))
  replace HT := Lib.hid hA
  clear hA hF hB
  clear q q2
  go_wp2_with (((with_reducible refine wpList_blk_store (op := ⟨none, .store 27 (.tmp 3) (.tmp 38), _, _, _, _⟩) ?sg3 27 (.tmp 3) (.tmp 38) ?so3 (w.heap.size) z17 ?sx3 ?sy3 HT.out z17_same.out Q0.out A0.out ?_); (case sg3 => rfl); (case so3 => rfl); (case sx3 => rfl); (case sy3 => rfl)))
  intro V5 hA hF hB
  replace K := Lib.hid (K.out.trans (hB _ (by omega)))
  replace HT := Lib.hid hA
  clear hA hF hB
  go_wp2
  have hrun := run_blk_load (P := Try.prog) 27 w.heap.size _ HT.out Try.underlying27 rfl Q0.out
  exact bodyPost_ret (results_3 2 3 4 27 w.heap.size _ Try.results13 rfl hrun) rfl ⟨rfl, K.out⟩
theorem opn_yes {v : Bool} {P : List Nat} (h : opn v P = true) : hH v ≤ P.length ∧ P.length - hH v ≤ capB v ∧ hdM v (lA v P) (lB v P) (fP v P) (P.length - hH v) = P.take (hH v) := by
  unfold opn at h
  rw [Bool.and_eq_true, Bool.and_eq_true, decide_eq_true_iff, decide_eq_true_iff, decide_eq_true_iff] at h
  exact h
set_option maxRecDepth 100000 in
set_option maxHeartbeats 2000000 in
theorem out_none (x : Value) (zs : List Nat) (w : World) (h : Rd w x (nus .u8 zs)) (hb : ∀ c ∈ zs, c < 256) (hz : zs.length ≤ 70000) (hn : (net zs).2.2 = 0) (ho : opn (sixF zs) (pkt zs) = true) (hh : hlB (inP zs) (fP (sixF zs) (pkt zs)) = false) :
    Calls Try.prog 13 #[x] w fun e w' => e = .returned (.tuple #[.slice none 0 0, .agg z17, .bool false]) ∧ Below w.heap.size w w' := by
  have K := Lib.hid (Below.refl w.heap.size w)
  have HR := Lib.hid h
  have CN := Lib.hid (fun W (h : Rd W x (nus .u8 zs)) => net_any x zs W h hb)
  obtain ⟨a, cap, rfl, hlc, hlm⟩ := rd_shape h
  obtain ⟨h14, hnl, hk2⟩ := net_ok zs hn
  obtain ⟨b, off, rfl, -⟩ := h.cells (by omega)
  have hbP : ∀ c ∈ pkt zs, c < 256 := fun c hc => hb c (List.mem_of_mem_drop hc)
  have R2 := subP h (net zs).1 (zs.length - (net zs).1) (by omega)
  rw [List.take_of_length_le (by rw [List.length_drop]; exact Nat.le_refl _)] at R2
  replace R2 := Lib.hid (show Rd w _ (nus .u8 (pkt zs)) from R2)
  have hzP : (pkt zs).length ≤ 70000 := by simp [pkt]; omega
  have Y0 : Hid (z17.size = Array.size (Zc17 : Array Value)) := rfl
  have Q0 := Lib.hid (i24.trans (congrArg some (show 17 = z17.size from rfl)))
  have A0 := Lib.hid z17_all
  have e6 : (((net zs).2.1 : Int) == 34525) = sixF zs := by
    unfold sixF
    rcases hk2 with q | q <;> rw [q] <;> rfl
  obtain ⟨o1, o2, o3⟩ := opn_yes ho
  have hD16 := lB_16 (sixF zs) (pkt zs) o1
  have sD : (cellsA (sixF zs) (lB (sixF zs) (pkt zs))).size = 17 := by rw [cellsA_size, hD16]
  have YD : Hid ((cellsA (sixF zs) (lB (sixF zs) (pkt zs))).size = Array.size (Zc17 : Array Value)) := sD
  have QD := Lib.hid (i24.trans (congrArg some sD.symm))
  have AD := Lib.hid (cellsA_all (sixF zs) (lB (sixF zs) (pkt zs)))
  have hbI : ∀ c ∈ inP zs, c < 256 := fun c hc => hbP c (List.mem_of_mem_drop hc)
  have hpr : fP (sixF zs) (pkt zs) < 256 := by unfold fP; split <;> exact getD_lt _ hbP _
  have CO := Lib.hid (fun W y (h : Rd W y (nus .u8 (pkt zs))) => open_yes y (pkt zs) (sixF zs) W h hbP hzP o1 o2 o3)
  have CL := Lib.hid (fun W y (h : Rd W y (nus .u8 (inP zs))) => holds_any y (inP zs) (fP (sixF zs) (pkt zs)) W h hbI hpr)
  unfold adr at CO
  unfold hlB at hh
  rw [hh] at CL
  clear hh ho
  rw [hn] at CN
  generalize hP2 : (if cap = (net zs).1 then some (⟨b, off, none⟩ : Addr) else some ⟨b, off + (net zs).1, none⟩) = P2 at *
  have HP2 := Lib.hid hP2
  unfold maxLen at hlm
  generalize cellsA (sixF zs) (lB (sixF zs) (pkt zs)) = DA at *
  have Yb : Hid (z17.size = DA.size) := YD.out.symm
  generalize fP (sixF zs) (pkt zs) = pr at *
  have hin : inP zs = (pkt zs).drop (hH (sixF zs)) := rfl
  rw [← hin] at CO
  clear hin o1 o2 o3 hD16 sD hbI hpr hzP
  generalize inP zs = Z at *
  generalize pkt zs = P at *
  clear h hb hn hbP hP2 hk2
  generalize sixF zs = v at *
  generalize (net zs).2.1 = k at *
  generalize (net zs).1 = n at *
  generalize zs.length = len at *
  generalize hm : len - n = m at *
  have HM := Lib.hid hm
  go_enter Try.func13, Try.ntmps13
  have hal := (Below.refl w.heap.size w).alloc (Nat.le_refl _) (.cells Zc17 27)
  replace K := Lib.hid (K.out.trans (hal.mono K.out.size))
  have HT := Lib.hid (Blk.new w 27 Zc17)
  clear hal
  go_wp2_with fail
  have hzV1 : Hid ((w.alloc (.cells Zc17 27)).heap.size = w.heap.size + 1) := by show _ = _; simp only [World.size_alloc]
  generalize (w.alloc (.cells Zc17 27)) = V1 at *
  refine (CN.out V1 (HR.out.below K.out)).mono ?_
  rintro e V2 ⟨rfl, rfl⟩
  have q : (n : Int) ≤ (len : Int) := (by omega)
  have q2 := HP2.out
  go_wp2_with fail
  refine (CO.out V1 _ (R2.out.below K.out)).mono ?_
  rintro e V3 ⟨y, rfl, ry, hy⟩
  replace K := Lib.hid (K.out.trans (hy.mono K.out.size))
  replace HT := Lib.hid (HT.out.below hy HT.out.lt)
  have RY := Lib.hid (ry w R2.out)
  clear ry
  clear hy
  go_wp2_with (((with_reducible refine wpList_blk_store (op := ⟨none, .store 27 (.tmp 3) (.tmp 27), _, _, _, _⟩) ?sg4 27 (.tmp 3) (.tmp 27) ?so4 (w.heap.size) DA ?sx4 ?sy4 HT.out YD.out QD.out AD.out ?_); (case sg4 => rfl); (case so4 => rfl); (case sx4 => rfl); (case sy4 => rfl)))
  intro V4 hA hF hB
  replace K := Lib.hid (K.out.trans (hB _ (by omega)))
  replace HT := Lib.hid hA
  clear hA hF hB
  clear q q2
  go_wp2_with fail
  refine (CL.out V4 _ (RY.out.below K.out)).mono ?_
  rintro e V5 ⟨rfl, rfl⟩
  go_wp2_with (((with_reducible refine wpList_blk_store (op := ⟨none, .store 27 (.tmp 3) (.tmp 38), _, _, _, _⟩) ?sg5 27 (.tmp 3) (.tmp 38) ?so5 (w.heap.size) z17 ?sx5 ?sy5 HT.out Yb.out Q0.out A0.out ?_); (case sg5 => rfl); (case so5 => rfl); (case sx5 => rfl); (case sy5 => rfl)))
  intro V6 hA hF hB
  replace K := Lib.hid (K.out.trans (hB _ (by omega)))
  replace HT := Lib.hid hA
  clear hA hF hB
  go_wp2
  have hrun := run_blk_load (P := Try.prog) 27 w.heap.size _ HT.out Try.underlying27 rfl Q0.out
  exact bodyPost_ret (results_3 2 3 4 27 w.heap.size _ Try.results13 rfl hrun) rfl ⟨rfl, K.out⟩
set_option maxRecDepth 100000 in
set_option maxHeartbeats 2000000 in
theorem out_yes (x : Value) (zs : List Nat) (w : World) (h : Rd w x (nus .u8 zs)) (hb : ∀ c ∈ zs, c < 256) (hz : zs.length ≤ 70000) (hn : (net zs).2.2 = 0) (ho : opn (sixF zs) (pkt zs) = true) (hh : hlB (inP zs) (fP (sixF zs) (pkt zs)) = true) :
    Calls Try.prog 13 #[x] w fun e w' => ∃ y, e = .returned (.tuple #[y, adr (sixF zs) (lB (sixF zs) (pkt zs)), .bool true]) ∧ Rd w' y (nus .u8 ((zs.take ((net zs).1 - 2) ++ bg 2 (kN (decide (fP (sixF zs) (pkt zs) = 41)))) ++ inP zs)) ∧ Below w.heap.size w w' := by
  have K := Lib.hid (Below.refl w.heap.size w)
  have HR := Lib.hid h
  have CN := Lib.hid (fun W (h : Rd W x (nus .u8 zs)) => net_any x zs W h hb)
  obtain ⟨a, cap, rfl, hlc, hlm⟩ := rd_shape h
  obtain ⟨h14, hnl, hk2⟩ := net_ok zs hn
  obtain ⟨b, off, rfl, -⟩ := h.cells (by omega)
  have hbP : ∀ c ∈ pkt zs, c < 256 := fun c hc => hb c (List.mem_of_mem_drop hc)
  have R2 := subP h (net zs).1 (zs.length - (net zs).1) (by omega)
  rw [List.take_of_length_le (by rw [List.length_drop]; exact Nat.le_refl _)] at R2
  replace R2 := Lib.hid (show Rd w _ (nus .u8 (pkt zs)) from R2)
  have hzP : (pkt zs).length ≤ 70000 := by simp [pkt]; omega
  have Y0 : Hid (z17.size = Array.size (Zc17 : Array Value)) := rfl
  have Q0 := Lib.hid (i24.trans (congrArg some (show 17 = z17.size from rfl)))
  have A0 := Lib.hid z17_all
  have e6 : (((net zs).2.1 : Int) == 34525) = sixF zs := by
    unfold sixF
    rcases hk2 with q | q <;> rw [q] <;> rfl
  obtain ⟨o1, o2, o3⟩ := opn_yes ho
  have hD16 := lB_16 (sixF zs) (pkt zs) o1
  have sD : (cellsA (sixF zs) (lB (sixF zs) (pkt zs))).size = 17 := by rw [cellsA_size, hD16]
  have YD : Hid ((cellsA (sixF zs) (lB (sixF zs) (pkt zs))).size = Array.size (Zc17 : Array Value)) := sD
  have QD := Lib.hid (i24.trans (congrArg some sD.symm))
  have AD := Lib.hid (cellsA_all (sixF zs) (lB (sixF zs) (pkt zs)))
  have hbI : ∀ c ∈ inP zs, c < 256 := fun c hc => hbP c (List.mem_of_mem_drop hc)
  have hpr : fP (sixF zs) (pkt zs) < 256 := by unfold fP; split <;> exact getD_lt _ hbP _
  have CO := Lib.hid (fun W y (h : Rd W y (nus .u8 (pkt zs))) => open_yes y (pkt zs) (sixF zs) W h hbP hzP o1 o2 o3)
  have CL := Lib.hid (fun W y (h : Rd W y (nus .u8 (inP zs))) => holds_any y (inP zs) (fP (sixF zs) (pkt zs)) W h hbI hpr)
  unfold adr at CO
  have hne : 0 < (inP zs).length := by
    have q : inP zs ≠ [] := by unfold hlB at hh; rw [decide_eq_true_iff] at hh; exact hh.1
    exact List.length_pos_iff.2 q
  have hlI : (inP zs).length ≤ 70000 := by have := List.length_drop (i := hH (sixF zs)) (l := pkt zs); unfold inP; omega
  unfold hlB at hh
  rw [hh] at CL
  clear hh ho
  have CK := Lib.hid (fun W => kindOf_any (decide (fP (sixF zs) (pkt zs) = 41)) W)
  obtain ⟨nn, hnn⟩ : ∃ q, (net zs).1 = q + 2 := ⟨(net zs).1 - 2, by omega⟩
  have CW := Lib.hid (fun W h => with_yes (.slice (some ⟨b, off, none⟩) zs.length cap) zs (kN (decide (fP (sixF zs) (pkt zs) = 41))) nn W h hb (by unfold kN; split <;> omega) hn hnn (by omega) (by omega))
  have hwl : (zs.take nn ++ bg 2 (kN (decide (fP (sixF zs) (pkt zs) = 41)))).length = nn + 2 := by rw [List.length_append, List.length_take, bg_length]; omega
  rw [show (net zs).1 - 2 = nn by omega]
  rw [← hnn] at CW hwl
  have e41 : ((fP (sixF zs) (pkt zs) : Int) == 41) = decide (fP (sixF zs) (pkt zs) = 41) := by rw [Bool.eq_iff_iff, beq_iff_eq, decide_eq_true_iff]; omega
  unfold adr
  rw [hn] at CN
  generalize hP2 : (if cap = (net zs).1 then some (⟨b, off, none⟩ : Addr) else some ⟨b, off + (net zs).1, none⟩) = P2 at *
  have HP2 := Lib.hid hP2
  unfold maxLen at hlm
  generalize cellsA (sixF zs) (lB (sixF zs) (pkt zs)) = DA at *
  have Yb : Hid (z17.size = DA.size) := YD.out.symm
  generalize fP (sixF zs) (pkt zs) = pr at *
  have hin : inP zs = (pkt zs).drop (hH (sixF zs)) := rfl
  rw [← hin] at CO
  clear hin o1 o2 o3 hD16 sD hbI hpr hzP
  generalize (zs.take nn ++ bg 2 (kN (decide (pr = 41)))) = E at *
  generalize kN (decide (pr = 41)) = kk at *
  generalize decide (pr = 41) = b41 at *
  have HWL := Lib.hid hwl
  clear hwl hnn
  generalize inP zs = Z at *
  generalize pkt zs = P at *
  clear h hb hn hbP hP2 hk2
  generalize sixF zs = v at *
  generalize (net zs).2.1 = k at *
  generalize (net zs).1 = n at *
  generalize zs.length = len at *
  generalize hm : len - n = m at *
  have HM := Lib.hid hm
  go_enter Try.func13, Try.ntmps13
  have hal := (Below.refl w.heap.size w).alloc (Nat.le_refl _) (.cells Zc17 27)
  replace K := Lib.hid (K.out.trans (hal.mono K.out.size))
  have HT := Lib.hid (Blk.new w 27 Zc17)
  clear hal
  go_wp2_with fail
  have hzV1 : Hid ((w.alloc (.cells Zc17 27)).heap.size = w.heap.size + 1) := by show _ = _; simp only [World.size_alloc]
  generalize (w.alloc (.cells Zc17 27)) = V1 at *
  refine (CN.out V1 (HR.out.below K.out)).mono ?_
  rintro e V2 ⟨rfl, rfl⟩
  have q : (n : Int) ≤ (len : Int) := (by omega)
  have q2 := HP2.out
  go_wp2_with fail
  refine (CO.out V1 _ (R2.out.below K.out)).mono ?_
  rintro e V3 ⟨y, rfl, ry, hy⟩
  replace K := Lib.hid (K.out.trans (hy.mono K.out.size))
  replace HT := Lib.hid (HT.out.below hy HT.out.lt)
  have RY := Lib.hid (ry w R2.out)
  clear ry
  clear hy
  go_wp2_with (((with_reducible refine wpList_blk_store (op := ⟨none, .store 27 (.tmp 3) (.tmp 27), _, _, _, _⟩) ?sg6 27 (.tmp 3) (.tmp 27) ?so6 (w.heap.size) DA ?sx6 ?sy6 HT.out YD.out QD.out AD.out ?_); (case sg6 => rfl); (case so6 => rfl); (case sx6 => rfl); (case sy6 => rfl)))
  intro V4 hA hF hB
  replace K := Lib.hid (K.out.trans (hB _ (by omega)))
  replace HT := Lib.hid hA
  clear hA hF hB
  clear q q2
  go_wp2_with fail
  refine (CL.out V4 _ (RY.out.below K.out)).mono ?_
  rintro e V5 ⟨rfl, rfl⟩
  go_wp2_with fail
  have hgV : w.heap.size < V4.heap.size := HT.out.lt
  have hrV := HR.out.below K.out
  refine wp_region_held (S := (fun w' : World => Below w.heap.size V4 w' ∧ Blk w' w.heap.size 27 DA)) (by kernel_rfl) ?_
  change wpAnyH _ _ _ _ _ _ _ _ V4.drew
  have HS : Hid (Below w.heap.size V4 V4.drew ∧ Blk V4.drew w.heap.size 27 DA) := ⟨(Below.refl _ _).drew, HT.out.drew⟩
  have hy : Below V4.heap.size V4 V4.drew := (Below.refl _ _).drew
  have HRV := Lib.hid (hrV.below hy)
  have RYV := Lib.hid ((RY.out.below K.out).below hy)
  have hgY : w.heap.size < V4.drew.heap.size := hgV
  clear hrV hy
  generalize V4.drew = Y0 at HS HRV RYV hgY ⊢
  refine tkA 0 (?_) ?_ HS.out ?_
  rotate_left
  · (intro w1 hS; go_simp; try with_reducible rfl)
  simp only [Act.put, tS1, tS2, tS3]
  refine tkA 1 (?_) ?_ HS.out ?_
  rotate_left
  · (intro w1 hS; go_simp; try with_reducible rfl)
  simp only [Act.put, tS1, tS2, tS3]
  refine tkA 2 (?_) ?_ HS.out ?_
  rotate_left
  · (intro w1 hS; go_simp; try with_reducible rfl)
  simp only [Act.put, tS1, tS2, tS3]
  refine tkA 8 (.agg DA) ?_ HS.out ?_
  · (intro w1 hS; exact exec_load 27 (.tmp 3) rfl _ rfl _ (run_blk_load (P := Try.prog) 27 w.heap.size _ hS.2 Try.underlying27 rfl QD.out))
  simp only [Act.put, tS1, tS2, tS3]
  refine tkA 5 (?_) ?_ HS.out ?_
  rotate_left
  · (intro w1 hS; go_simp; try with_reducible rfl)
  simp only [Act.put, tS1, tS2, tS3]
  refine tkO 3 (fun KK hK => ?_)
  go_simp
  refine (CK.out Y0).mono ?_
  rintro e Y1 ⟨rfl, rfl⟩
  refine hK.out _ _ HS.out (fun _ => ?_)
  clear hK KK
  try simp only [Act.put, tS1, tS2, tS3]
  refine tkO 4 (fun KK hK => ?_)
  go_simp
  refine (CW.out Y0 HRV.out).mono ?_
  rintro e Y1 ⟨x1, rfl, ox1, hy⟩
  obtain ⟨g1, k1, rfl, -, -, hg1, -⟩ := own_at ox1 (by omega)
  have RX := Lib.hid (Rd.own ox1)
  replace RYV := Lib.hid (RYV.out.below hy)
  have hgY1 := Nat.lt_of_lt_of_le hgY hy.size
  replace HS := Lib.hid (show Below w.heap.size V4 Y1 ∧ Blk Y1 w.heap.size 27 DA from ⟨HS.out.1.trans (hy.mono (Nat.le_of_lt hgY)), HS.out.2.below hy hgY⟩)
  refine hK.out _ _ HS.out (fun _ => ?_)
  clear hK KK hy ox1 hg1 HRV hgY
  try simp only [Act.put, tS1, tS2, tS3]
  obtain ⟨a3, k3, ey, -, -⟩ := rd_shape RYV.out
  subst ey
  obtain ⟨b3, o3, rfl, -⟩ := RYV.out.cells (by omega)
  refine tkO 6 (fun KK hK => ?_)
  go_simp
  have hy := (Below.refl Y1.heap.size Y1).alloc (Nat.le_refl _) (.cells #[Value.slice (some ⟨g1, 0, none⟩) n k1, Value.slice (some ⟨b3, o3, none⟩) Z.length k3] 22)
  have BB := Blk.new Y1 22 #[Value.slice (some ⟨g1, 0, none⟩) n k1, Value.slice (some ⟨b3, o3, none⟩) Z.length k3]
  obtain ⟨gb, hgb⟩ : ∃ g, g = Y1.heap.size := ⟨_, rfl⟩
  rw [← hgb] at BB
  rw [← hgb]
  generalize Y1.alloc (.cells #[Value.slice (some ⟨g1, 0, none⟩) n k1, Value.slice (some ⟨b3, o3, none⟩) Z.length k3] 22) = Y2 at BB hy ⊢
  clear hgb
  replace BB := Lib.hid BB
  replace RX := Lib.hid (RX.out.below hy)
  replace RYV := Lib.hid (RYV.out.below hy)
  have hgY2 := Nat.lt_of_lt_of_le hgY1 hy.size
  replace HS := Lib.hid (show Below w.heap.size V4 Y2 ∧ Blk Y2 w.heap.size 27 DA from ⟨HS.out.1.trans (hy.mono (Nat.le_of_lt hgY1)), HS.out.2.below hy hgY1⟩)
  refine hK.out _ _ HS.out (fun _ => ?_)
  clear hK KK hy hgY1
  try simp only [Act.put, tS1, tS2, tS3]
  refine tkO 7 (fun KK hK => ?_)
  go_simp
  refine (concat_2 gb (some ⟨g1, 0, none⟩) (some ⟨b3, o3, none⟩) n Z.length k1 k3 E Z Y2 BB.out RX.out RYV.out (by intro e; cases e) (by intro e; cases e) HWL.out rfl (by omega) (by omega)).mono ?_
  rintro e Y3 ⟨x3, rfl, ox3, hy⟩
  have OX := Lib.hid ox3
  replace HS := Lib.hid (show Below w.heap.size V4 Y3 ∧ Blk Y3 w.heap.size 27 DA from ⟨HS.out.1.trans (hy.mono (Nat.le_of_lt hgY2)), HS.out.2.below hy hgY2⟩)
  refine hK.out _ _ HS.out (fun _ => ?_)
  clear hK KK hy ox3 BB RX RYV
  try simp only [Act.put, tS1, tS2, tS3]
  refine tkA 9 (?_) ?_ HS.out ?_
  rotate_left
  · (intro w1 hS; go_simp; try with_reducible rfl)
  simp only [Act.put, tS1, tS2, tS3]
  refine tkO 10 (fun KK hK => ?_)
  rw [if_pos (by rfl)]
  refine wp_blk_store 27 (.tmp 3) (.tmp 47) rfl DA rfl rfl HS.out.2 rfl QD.out AD.out ?_
  intro Y4 hA hF hB
  replace OX := Lib.hid (Rd.own (own_far OX.out hgY2 hF))
  replace HS := Lib.hid (show Below w.heap.size V4 Y4 ∧ Blk Y4 w.heap.size 27 DA from ⟨HS.out.1.trans (hB _ (Nat.le_refl _)), hA⟩)
  clear hA hF hB
  refine hK.out _ _ HS.out (fun _ => ?_)
  clear hK KK
  refine tkA 11 (?_) ?_ HS.out ?_
  rotate_left
  · (intro w1 hS; go_simp; try with_reducible rfl)
  simp only [Act.put, tS1, tS2, tS3]
  refine wpAnyH_done (by kernel_rfl) ?_ _
  replace K := Lib.hid (K.out.trans HS.out.1)
  replace HT := Lib.hid HS.out.2
  clear HS
  go_wp2
  have hrun := run_blk_load (P := Try.prog) 27 w.heap.size _ HT.out Try.underlying27 rfl QD.out
  exact bodyPost_ret (results_3 2 3 4 27 w.heap.size _ Try.results13 rfl hrun) rfl ⟨_, rfl, OX.out, K.out⟩
theorem out_any (x : Value) (zs : List Nat) (w : World) (h : Rd w x (nus .u8 zs)) (hb : ∀ c ∈ zs, c < 256) (hz : zs.length ≤ 70000) :
    Calls Try.prog 13 #[x] w fun e w' => ∃ y, e = .returned (.tuple #[y, .agg (outA zs), .bool (outOk zs)]) ∧ Rd w' y (nus .u8 (outL zs)) ∧ Below w.heap.size w w' := by
  by_cases h1 : (net zs).2.2 = 0
  · cases h2 : opn (sixF zs) (pkt zs) with
    | false =>
      have hk : outOk zs = false := by unfold outOk; rw [h2]; simp
      unfold outA outL
      rw [hk]
      exact (out_off x zs w h hb hz h1 h2).mono fun e w' ⟨q1, q2⟩ => ⟨_, q1, rd_nil _ _, q2⟩
    | true =>
      cases h3 : hlB (inP zs) (fP (sixF zs) (pkt zs)) with
      | false =>
        have hk : outOk zs = false := by unfold outOk; rw [h3]; simp
        unfold outA outL
        rw [hk]
        exact (out_none x zs w h hb hz h1 h2 h3).mono fun e w' ⟨q1, q2⟩ => ⟨_, q1, rd_nil _ _, q2⟩
      | true =>
        have hk : outOk zs = true := by unfold outOk; rw [h2, h3, h1]; rfl
        unfold outA outL
        rw [hk]
        exact out_yes x zs w h hb hz h1 h2 h3
  · have hk : outOk zs = false := by unfold outOk; rw [decide_eq_false h1]; rfl
    unfold outA outL
    rw [hk]
    exact (out_net x zs w h hb h1).mono fun e w' ⟨q1, q2⟩ => ⟨_, q1, rd_nil _ _, q2⟩
end Go.Proofs.Ytnpibdjfafpegaa
