/- Texts that the walks of this seat lean on, put together. -/
import Derived.WalkKit
import Derived.LoopTactic
import Derived.Handy
import Derived.Lib.Hide
import Derived.Test.YthionipmohbnhaaTk
import Derived.Test.YthionipmohbnhaaM02
import Derived.Test.YthionipmohbnhaaM04
import Derived.Test.YthionipmohbnhaaM05
import Derived.Test.YthionipmohbnhaaM07
import Derived.Test.YthionipmohbnhaaM08
import Derived.Test.YthionipmohbnhaaM09
import Derived.Test.YthionipmohbnhaaM12
namespace Go.Proofs.Ythionipmohbnhaa
open Go.RowKit
structure View9 (zs : List Nat) (A : Array Value) : Prop where
  size : A.size = 42
  all : A.all (·.oneCell') = true
  c0 : A[0]? = some (.bool (sixF zs))
  c1 : A[1]? = some (.int .i64 (nN zs : Int))
  c2 : A[2]? = some (.int .i64 (nS zs : Int))
  c3 : A[3]? = some (.int .i64 (nE zs : Int))
  c4 : A[4]? = some (.int .u8 (fP (sixF zs) (pkt zs) : Int))
  c40 : A[40]? = some (.int .u16 (u2 (sgm zs) 2 : Int))
  pD : (A.toList.drop 22).take (cellsA (sixF zs) (lB (sixF zs) (pkt zs))).toList.length = (cellsA (sixF zs) (lB (sixF zs) (pkt zs))).toList
theorem view9 (zs : List Nat) (h : rr zs = 0) : View9 zs (vw zs) := by
  have hF := frame9 zs h
  have hvw : vw zs = vcells (sixF zs) (nN zs) (nS zs) (nE zs) (kcells (fP (sixF zs) (pkt zs)) (fA (sixF zs) (pkt zs)) (fB (sixF zs) (pkt zs)) (u2 (sgm zs) 0) (u2 (sgm zs) 2)) (fl (fP (sixF zs) (pkt zs)) (sgm zs)) := by unfold vw keyF; rw [if_pos h]; rfl
  have hsS := hF.hd0.sA
  have hsD := hF.hd0.sB
  obtain ⟨q0, q1, q2, q3, q4⟩ := vget (sixF zs) (nN zs) (nS zs) (nE zs) (fl (fP (sixF zs) (pkt zs)) (sgm zs)) (fP (sixF zs) (pkt zs)) (u2 (sgm zs) 0) (u2 (sgm zs) 2) (fA (sixF zs) (pkt zs)) (fB (sixF zs) (pkt zs))
  obtain ⟨-, q22⟩ := vpart (sixF zs) (nN zs) (nS zs) (nE zs) (fl (fP (sixF zs) (pkt zs)) (sgm zs)) (fP (sixF zs) (pkt zs)) (u2 (sgm zs) 0) (u2 (sgm zs) 2) _ _ hsS hsD
  refine ⟨vw_size zs, vw_all zs, ?_, ?_, ?_, ?_, ?_, ?_, ?_⟩
  all_goals rw [hvw]
  · exact q0
  · exact q1
  · exact q2
  · exact q3
  · exact q4
  · generalize fA (sixF zs) (pkt zs) = S at *
    generalize fB (sixF zs) (pkt zs) = D at *
    obtain ⟨x0, x1, x2, x3, x4, x5, x6, x7, x8, x9, x10, x11, x12, x13, x14, x15, x16, rfl⟩ := arr17 S hsS
    obtain ⟨y0, y1, y2, y3, y4, y5, y6, y7, y8, y9, y10, y11, y12, y13, y14, y15, y16, rfl⟩ := arr17 D hsD
    rfl
  · rw [← fB_cells]; exact q22
set_option maxRecDepth 100000 in
set_option maxHeartbeats 4000000 in
theorem header_any (v : Value) (zs D : List Nat) (w : World) (hr : Rd w v (nus .u8 zs)) (hb : ∀ c ∈ zs, c < 256) (h : rr zs = 0) (hz : zs.length ≤ 65535) (hD : D.length = 16) (hbD : ∀ c ∈ D, c < 256) :
    Calls Try.prog 21 #[v, .agg (vw zs), adr (sixF zs) D] w fun e w' => ∃ g c, e = .returned (.slice (some ⟨g, 0, none⟩) (fS (sixF zs) (pkt zs)) c) ∧ Rd w' (.slice (some ⟨g, 0, none⟩) (fS (sixF zs) (pkt zs)) c) (nus .u8 ((dsX (sixF zs) (pkt zs) D).take (fS (sixF zs) (pkt zs)))) ∧ Below w.heap.size w w' := by
  have hF := frame9 zs h
  have hV := view9 zs h
  have q1 := hF.hd0.low
  have q2 := hF.hd0.mid
  have q3 := hF.hd0.high
  have q4 := hF.pl
  have q5 := hF.nl
  have q6 := hF.n0
  obtain ⟨a, cap, rfl, hlc, hlm⟩ := rd_shape hr
  unfold maxLen at hlm
  obtain ⟨b, off, rfl, -⟩ := hr.cells (by omega)
  obtain ⟨n, hn⟩ : ∃ x, x = nN zs := ⟨_, rfl⟩
  obtain ⟨sg, hsg⟩ : ∃ x, x = nS zs := ⟨_, rfl⟩
  obtain ⟨en, hen⟩ : ∃ x, x = nE zs := ⟨_, rfl⟩
  obtain ⟨S, hS⟩ : ∃ x, x = fS (sixF zs) (pkt zs) := ⟨_, rfl⟩
  obtain ⟨P, hP⟩ : ∃ x, x = (pkt zs).take (fL (sixF zs) (pkt zs)) := ⟨_, rfl⟩
  have eN : n = (net zs).1 := hn
  have eS : sg = n + S := by rw [hsg, hn, hS]; rfl
  have eE : en = n + fL (sixF zs) (pkt zs) := by rw [hen, hn]; rfl
  have hPl : P.length = en - n := by rw [hP, List.length_take, eE]; omega
  have hbP : ∀ c ∈ P, c < 256 := by rw [hP]; exact fun c hc => pkt_lt zs hb c (List.mem_of_mem_take hc)
  have hSH := same_head (sixF zs) (pkt zs) P hF.hr (by rw [hPl, eE]; omega) (by rw [hP, List.take_take, Nat.min_eq_left q2])
  have hRP := hr.sub n (en - n) (by omega)
  rw [show (zs.drop n).take (en - n) = P from by rw [hP, eE, Nat.add_sub_cancel_left, eN]; rfl] at hRP
  have hcut := dsX_cut (sixF zs) (pkt zs) D (fL (sixF zs) (pkt zs)) hF.hr hD (Nat.le_refl _) q3
  rw [← hP, ← hS] at hcut
  rw [← hS] at q1 q2
  rw [← hS, ← hcut]
  have c0 := hV.c0
  have c1 := hV.c1
  have c2 := hV.c2
  have c3 := hV.c3
  rw [← hn] at c1
  rw [← hsg] at c2
  rw [← hen] at c3
  have ZVW := Lib.hid (i72.trans (congrArg some hV.size.symm))
  have HC := Lib.hid hcut
  have RP := Lib.hid hRP
  have H0 := Lib.hid c0
  have H1 := Lib.hid c1
  have H2 := Lib.hid c2
  have H3 := Lib.hid c3
  have K := Lib.hid (Below.refl w.heap.size w)
  have hSl : S ≤ en - n := by omega
  have hne : n ≤ en := by omega
  have hez : en - n ≤ 65535 := by omega
  have hec : en ≤ cap := by omega
  have hfr := hSH.r
  have hDs := cellsA_size (sixF zs) D
  have ZD := Lib.hid (i24.trans (congrArg some (show (17 : Nat) = (cellsA (sixF zs) D).size by rw [hDs, hD])))
  clear hr hb h hF hV q3 q4 q5 q6 hn hsg hen hS hP eN eE hSH hRP hcut c0 c1 c2 c3 hz hDs
  have hws : IntKind.i64.wrap ((sg : Int) - (n : Int)) = (S : Int) := by rw [IntKind.wrap_i64]; omega
  have hne2 : (n : Int) ≤ (en : Int) := by omega
  have hec2 : (en : Int) ≤ (cap : Int) := by omega
  have hSz : (0 : Int) ≤ (S : Int) := by omega
  generalize vw zs = VW at *
  generalize sixF zs = six at *
  generalize pkt zs = T at *
  unfold adr
  clear q2 eS
  cases six with
  | true =>
    have CD := Lib.hid (fun W z (hz : Rd W z (nus .u8 P)) => dest6_yes z P D W hz hbP hfr (by omega) hD)
    rw [show dsX true P D = dst6 P D from rfl]
    rw [hPl] at CD
    have HPL := Lib.hid hPl
    clear HC hbP hbD hfr hPl hD
    generalize dst6 P D = Q at *
    go_enter Try.func21, Try.ntmps21
    have hal := (Below.refl w.heap.size w).alloc (Nat.le_refl _) (.cells VW 42)
    replace K := Lib.hid (K.out.trans (hal.mono K.out.size))
    replace RP := Lib.hid (RP.out.below hal)
    have HX := Lib.hid (Blk.new w 42 VW)
    clear hal
    have hal := (Below.refl (w.alloc (.cells VW 42)).heap.size (w.alloc (.cells VW 42))).alloc (Nat.le_refl _) (.cells (cellsA true D) 25)
    replace K := Lib.hid (K.out.trans (hal.mono K.out.size))
    replace RP := Lib.hid (RP.out.below hal)
    replace HX := Lib.hid (HX.out.below hal HX.out.lt)
    have HDq := Blk.new (w.alloc (.cells VW 42)) 25 (cellsA true D)
    simp only [World.size_alloc] at HDq
    have HD := Lib.hid HDq
    clear HDq
    clear hal
    go_upto_region 1 with fail
    have hzV1 : Hid (((w.alloc (.cells VW 42)).alloc (.cells (cellsA true D) 25)).heap.size = w.heap.size + 1 + 1) := by show _ = _; simp only [World.size_alloc]
    generalize ((w.alloc (.cells VW 42)).alloc (.cells (cellsA true D) 25)) = V1 at *
    have L1 := (HX.out.cell 1).trans H1.out
    have L2 := (HX.out.cell 3).trans H3.out
    have L3 := (HX.out.cell 0).trans H0.out
    have L4 : (loadVar 25 ⟨w.heap.size + 1, 0, none⟩).run Try.prog V1 = .ok (.agg (cellsA true D)) V1 := run_blk_load (P := Try.prog) 25 (w.heap.size + 1) _ HD.out Try.underlying25 rfl ZD.out
    replace L4 := Lib.hid L4
    go_wp2_with (((with_reducible refine wpList_load_want (op := ⟨some 17, .load 25 (.tmp 5), _, _, _, _⟩) ?wg4 25 (.tmp 5) ?wo4 ⟨w.heap.size + 1, 0, none⟩ ?wx4 (.agg (cellsA true D)) L4.out ?_); (case wg4 => rfl); (case wo4 => rfl); (case wx4 => rfl)))
    clear L1 L2 L3 L4
    refine (CD.out _ _ RP.out).mono ?_
    rintro e V2 ⟨x, rfl, ho, hy⟩
    replace K := Lib.hid (K.out.trans (hy.mono K.out.size))
    replace RP := Lib.hid (RP.out.below hy)
    replace HX := Lib.hid (HX.out.below hy HX.out.lt)
    replace HD := Lib.hid (HD.out.below hy HD.out.lt)
    obtain ⟨g, k, rfl, hk, -, -, -⟩ := own_at ho (by omega)
    have R := Lib.hid ((Rd.own ho).front S (by have q := ho.1; rw [nus_length] at q; omega))
    clear ho
    clear hy
    have hSk : (S : Int) ≤ (k : Int) := by omega
    have L5 := (HX.out.cell 2).trans H2.out
    have L6 := (HX.out.cell 1).trans H1.out
    go_wp2
    go_ret
    exact ⟨_, _, rfl, R.out, K.out⟩
  | false =>
    have CD := Lib.hid (fun W z (hz : Rd W z (nus .u8 P)) => dest4_yes z P D W hz hbP hfr (by omega) hD hbD)
    rw [show dsX false P D = dst4 P (D.take 4) from rfl]
    rw [hPl] at CD
    have HPL := Lib.hid hPl
    clear HC hbP hbD hfr hPl hD
    generalize dst4 P (D.take 4) = Q at *
    go_enter Try.func21, Try.ntmps21
    have hal := (Below.refl w.heap.size w).alloc (Nat.le_refl _) (.cells VW 42)
    replace K := Lib.hid (K.out.trans (hal.mono K.out.size))
    replace RP := Lib.hid (RP.out.below hal)
    have HX := Lib.hid (Blk.new w 42 VW)
    clear hal
    have hal := (Below.refl (w.alloc (.cells VW 42)).heap.size (w.alloc (.cells VW 42))).alloc (Nat.le_refl _) (.cells (cellsA false D) 25)
    replace K := Lib.hid (K.out.trans (hal.mono K.out.size))
    replace RP := Lib.hid (RP.out.below hal)
    replace HX := Lib.hid (HX.out.below hal HX.out.lt)
    have HDq := Blk.new (w.alloc (.cells VW 42)) 25 (cellsA false D)
    simp only [World.size_alloc] at HDq
    have HD := Lib.hid HDq
    clear HDq
    clear hal
    go_upto_region 1 with fail
    have hzV1 : Hid (((w.alloc (.cells VW 42)).alloc (.cells (cellsA false D) 25)).heap.size = w.heap.size + 1 + 1) := by show _ = _; simp only [World.size_alloc]
    generalize ((w.alloc (.cells VW 42)).alloc (.cells (cellsA false D) 25)) = V1 at *
    have L7 := (HX.out.cell 1).trans H1.out
    have L8 := (HX.out.cell 3).trans H3.out
    have L9 := (HX.out.cell 0).trans H0.out
    have L10 : (loadVar 25 ⟨w.heap.size + 1, 0, none⟩).run Try.prog V1 = .ok (.agg (cellsA false D)) V1 := run_blk_load (P := Try.prog) 25 (w.heap.size + 1) _ HD.out Try.underlying25 rfl ZD.out
    replace L10 := Lib.hid L10
    go_wp2_with (((with_reducible refine wpList_load_want (op := ⟨some 20, .load 25 (.tmp 5), _, _, _, _⟩) ?wg10 25 (.tmp 5) ?wo10 ⟨w.heap.size + 1, 0, none⟩ ?wx10 (.agg (cellsA false D)) L10.out ?_); (case wg10 => rfl); (case wo10 => rfl); (case wx10 => rfl)))
    clear L7 L8 L9 L10
    refine (CD.out _ _ RP.out).mono ?_
    rintro e V2 ⟨x, rfl, ho, hy⟩
    replace K := Lib.hid (K.out.trans (hy.mono K.out.size))
    replace RP := Lib.hid (RP.out.below hy)
    replace HX := Lib.hid (HX.out.below hy HX.out.lt)
    replace HD := Lib.hid (HD.out.below hy HD.out.lt)
    obtain ⟨g, k, rfl, hk, -, -, -⟩ := own_at ho (by omega)
    have R := Lib.hid ((Rd.own ho).front S (by have q := ho.1; rw [nus_length] at q; omega))
    clear ho
    clear hy
    have hSk : (S : Int) ≤ (k : Int) := by omega
    have L11 := (HX.out.cell 2).trans H2.out
    have L12 := (HX.out.cell 1).trans H1.out
    go_wp2
    go_ret
    exact ⟨_, _, rfl, R.out, K.out⟩
theorem dip_get (A : Array Value) (p : Nat) (h : A.size = 17) : (dcells A p)[17]? = some (.int .u16 (p : Int)) ∧ ((dcells A p).toList.drop 0).take A.toList.length = A.toList := by
  obtain ⟨x0, x1, x2, x3, x4, x5, x6, x7, x8, x9, x10, x11, x12, x13, x14, x15, x16, rfl⟩ := arr17 A h
  exact ⟨rfl, rfl⟩
theorem dip_v6 (v : Bool) (D : List Nat) (p : Nat) : (dcells (cellsA v D) p)[0]? = some (.bool v) := by simp [dcells, cellsA]
set_option maxRecDepth 100000 in
set_option maxHeartbeats 4000000 in
theorem newseg_any (v : Value) (zs D : List Nat) (tp : Nat) (w : World) (hr : Rd w v (nus .u8 zs)) (hb : ∀ c ∈ zs, c < 256) (h : rr zs = 0) (hz : zs.length ≤ 65535) (hD : D.length = 16) (hbD : ∀ c ∈ D, c < 256) (ht : tp < 65536) :
    Calls Try.prog 22 #[v, .agg (vw zs), .agg (dcells (cellsA (sixF zs) D) tp)] w fun e w' => ∃ x, e = .returned x ∧ Rd w' x (nus .u8 (sg9 zs D tp)) ∧ Below w.heap.size w w' := by
  have hF := frame9 zs h
  have hV := view9 zs h
  have q1 := hF.hd0.low
  have q2 := hF.hd0.mid
  have q3 := hF.hd0.high
  have q4 := hF.pl
  have q5 := hF.nl
  have q6 := hF.sE
  have q7 := hF.sl
  have q8 := hF.eL
  obtain ⟨a, cap, rfl, hlc, hlm⟩ := rd_shape hr
  unfold maxLen at hlm
  obtain ⟨b, off, rfl, -⟩ := hr.cells (by omega)
  obtain ⟨sg, hsg⟩ : ∃ x, x = nS zs := ⟨_, rfl⟩
  obtain ⟨en, hen⟩ : ∃ x, x = nE zs := ⟨_, rfl⟩
  rw [← hsg, ← hen] at q6
  rw [← hen] at q8
  have hfs := hF.fs0
  have h8 : 8 ≤ (sgm zs).length := by rcases fs_yes _ _ hfs with ⟨-, q, -⟩ | ⟨-, q, -⟩ <;> omega
  have e1 : fL (sixF zs) (pkt zs) - fS (sixF zs) (pkt zs) = en - sg := by rw [hsg, hen]; unfold nS nE; omega
  have hl8 : (sgm zs).length = en - sg := q7.trans e1
  have hRP := hr.sub sg (en - sg) (by omega)
  rw [show (zs.drop sg).take (en - sg) = sgm zs from by rw [← e1, hsg]; rfl] at hRP
  have hlF := lB_len (sixF zs) (pkt zs) hF.hr
  have hcp := (fun W z (h : Rd W z (nus .u8 (sgm zs))) => port_any (fP (sixF zs) (pkt zs)) z (sgm zs) (pt9 zs tp) (sixF zs) (lB (sixF zs) (pkt zs)) (sixF zs) D W h (sgm_lt zs hb) (by omega) (pt9_lt zs tp hb ht) hlF hD (lB_lt _ _ (pkt_lt zs hb)) hbD)
  rw [show pOut (fP (sixF zs) (pkt zs)) (sgm zs) (pt9 zs tp) (sixF zs) (lB (sixF zs) (pkt zs)) (sixF zs) D = sg9 zs D tp from if_pos ⟨hfs, rfl⟩] at hcp
  have hpt : pt9 zs tp = if tp = 0 then u2 (sgm zs) 2 else tp := rfl
  have sD : (cellsA (sixF zs) D).size = 17 := by rw [cellsA_size, hD]
  have sF : (cellsA (sixF zs) (lB (sixF zs) (pkt zs))).size = 17 := by rw [cellsA_size, hlF]
  obtain ⟨d17, dpart⟩ := dip_get _ tp sD
  unfold adr at hcp
  have c2 := hV.c2
  have c3 := hV.c3
  rw [← hsg] at c2
  rw [← hen] at c3
  have PF := Lib.hid hV.pD
  have c4 := hV.c4
  have c40 := hV.c40
  have ZVW := Lib.hid (i72.trans (congrArg some hV.size.symm))
  have ZDP := Lib.hid (i45.trans (congrArg some (dcells_size _ tp sD).symm))
  generalize cellsA (sixF zs) (lB (sixF zs) (pkt zs)) = CF at *
  generalize cellsA (sixF zs) D = DA at *
  have IF := Lib.hid (i24.trans (congrArg some (show (17 : Nat) = CF.toList.length by simp [sF])))
  have ID := Lib.hid (i24.trans (congrArg some (show (17 : Nat) = DA.toList.length by simp [sD])))
  have PD := Lib.hid dpart
  have H17 := Lib.hid d17
  have H2 := Lib.hid c2
  have H3 := Lib.hid c3
  have H4 := Lib.hid c4
  have H40 := Lib.hid c40
  have RP := Lib.hid hRP
  have CP := Lib.hid hcp
  have K := Lib.hid (Below.refl w.heap.size w)
  have hec : en ≤ cap := by omega
  have hsc : sg ≠ cap := by omega
  have hse : sg < en := by omega
  clear hr hb h hF hV q1 q2 q3 q4 q5 q6 q7 q8 hsg hen hfs h8 e1 hl8 hRP hlF hcp sD sF d17 dpart c2 c3 c4 c40 hz hD hbD ht
  generalize vw zs = VW at *
  generalize dcells DA tp = DP at *
  generalize sg9 zs D tp = OUT at *
  generalize u2 (sgm zs) 2 = dp at *
  generalize fP (sixF zs) (pkt zs) = p at *
  generalize zs.length = ln at *
  by_cases htp : tp = 0
  · subst htp
    rw [hpt, if_pos rfl] at CP
    clear hpt
    go_enter Try.func22, Try.ntmps22
    have hal := (Below.refl w.heap.size w).alloc (Nat.le_refl _) (.cells VW 42)
    replace K := Lib.hid (K.out.trans (hal.mono K.out.size))
    replace RP := Lib.hid (RP.out.below hal)
    have HX := Lib.hid (Blk.new w 42 VW)
    clear hal
    have hal := (Below.refl (w.alloc (.cells VW 42)).heap.size (w.alloc (.cells VW 42))).alloc (Nat.le_refl _) (.cells DP 28)
    replace K := Lib.hid (K.out.trans (hal.mono K.out.size))
    replace RP := Lib.hid (RP.out.below hal)
    replace HX := Lib.hid (HX.out.below hal HX.out.lt)
    have HDq := Blk.new (w.alloc (.cells VW 42)) 28 DP
    simp only [World.size_alloc] at HDq
    have HD := Lib.hid HDq
    clear HDq
    clear hal
    go_upto_region 1 with fail
    have hzV1 : Hid (((w.alloc (.cells VW 42)).alloc (.cells DP 28)).heap.size = w.heap.size + 1 + 1) := by show _ = _; simp only [World.size_alloc]
    generalize ((w.alloc (.cells VW 42)).alloc (.cells DP 28)) = V1 at *
    have L13 := (HD.out.cell 17).trans H17.out
    have L14 := (HX.out.cell 40).trans H40.out
    go_wp2_with fail
    clear L13 L14
    refine wp_region_held (S := (fun w' : World => Below (V1.heap.size) V1 w')) (by kernel_rfl) ?_
    change wpAnyH _ _ _ _ _ _ _ _ V1.drew
    have hy : Below V1.heap.size V1 V1.drew := (Below.refl _ _).drew
    have hE0 : Below (V1.heap.size) V1 V1.drew := (Below.refl _ _).drew
    clear hy
    generalize V1.drew = Y4x0 at hE0  ⊢
    have E0 := Lib.hid hE0
    clear hE0
    refine tkA 0 (?_) ?_ E0.out ?_
    rotate_left
    · (intro w1 hS; go_simp; try with_reducible rfl)
    simp only [Act.put, tS1, tS2, tS3]
    refine tkA 1 (?_) ?_ E0.out ?_
    rotate_left
    · (intro w1 hS; go_simp; try with_reducible rfl)
    simp only [Act.put, tS1, tS2, tS3]
    refine tkA 2 (?_) ?_ E0.out ?_
    rotate_left
    · (intro w1 hS; have hW := hS; have q := ((HX.out.below hW HX.out.lt).cell 4).trans H4.out; clear hW hS; go_simp; try with_reducible rfl)
    simp only [Act.put, tS1, tS2, tS3]
    refine tkA 3 (?_) ?_ E0.out ?_
    rotate_left
    · (intro w1 hS; go_simp; try with_reducible rfl)
    simp only [Act.put, tS1, tS2, tS3]
    refine tkA 4 (?_) ?_ E0.out ?_
    rotate_left
    · (intro w1 hS; go_simp; try with_reducible rfl)
    simp only [Act.put, tS1, tS2, tS3]
    refine tkA 5 (?_) ?_ E0.out ?_
    rotate_left
    · (intro w1 hS; have hW := hS; have q := ((HX.out.below hW HX.out.lt).cell 2).trans H2.out; clear hW hS; go_simp; try with_reducible rfl)
    simp only [Act.put, tS1, tS2, tS3]
    refine tkA 6 (?_) ?_ E0.out ?_
    rotate_left
    · (intro w1 hS; go_simp; try with_reducible rfl)
    simp only [Act.put, tS1, tS2, tS3]
    refine tkA 7 (?_) ?_ E0.out ?_
    rotate_left
    · (intro w1 hS; have hW := hS; have q := ((HX.out.below hW HX.out.lt).cell 3).trans H3.out; clear hW hS; go_simp; try with_reducible rfl)
    simp only [Act.put, tS1, tS2, tS3]
    refine tkA 8 (?_) ?_ E0.out ?_
    rotate_left
    · (intro w1 hS; have hW := hS; have q : (sg : Int) ≤ (en : Int) := (by omega); have q3 : (en : Int) ≤ (cap : Int) := (by omega); have q4 : ¬ cap = sg := (by omega); clear hW hS; go_simp; try with_reducible rfl)
    simp only [Act.put, tS1, tS2, tS3]
    refine tkA 9 (?_) ?_ E0.out ?_
    rotate_left
    · (intro w1 hS; go_simp; try with_reducible rfl)
    simp only [Act.put, tS1, tS2, tS3]
    refine tkA 10 (?_) ?_ E0.out ?_
    rotate_left
    · (intro w1 hS; go_simp; try with_reducible rfl)
    simp only [Act.put, tS1, tS2, tS3]
    refine tkA 11 (?_) ?_ E0.out ?_
    rotate_left
    · (intro w1 hS; go_simp; try with_reducible rfl)
    simp only [Act.put, tS1, tS2, tS3]
    refine tkA 12 (.agg CF) ?_ E0.out ?_
    · (intro w1 hS; have hW := hS; exact exec_load 25 (.tmp 26) rfl _ rfl _ (by have h := run_part_load (P := Try.prog) 25 22 CF.toList _ (HX.out.below hW HX.out.lt) PF.out Try.underlying25 rfl IF.out; rwa [Array.toArray_toList] at h))
    simp only [Act.put, tS1, tS2, tS3]
    refine tkA 13 (?_) ?_ E0.out ?_
    rotate_left
    · (intro w1 hS; go_simp; try with_reducible rfl)
    simp only [Act.put, tS1, tS2, tS3]
    refine tkA 14 (.agg DA) ?_ E0.out ?_
    · (intro w1 hS; have hW := hS; exact exec_load 25 (.tmp 28) rfl _ rfl _ (by have h := run_part_load (P := Try.prog) 25 0 DA.toList _ (HD.out.below hW HD.out.lt) PD.out Try.underlying25 rfl ID.out; rwa [Array.toArray_toList] at h))
    simp only [Act.put, tS1, tS2, tS3]
    refine tkO 15 (fun KK hK => ?_)
    go_simp
    refine (CP.out _ _ (RP.out.below E0.out)).mono ?_
    rintro e Y4x1 ⟨x, rfl, ho, hy⟩
    have E1 := Lib.hid (E0.out.trans (hy.mono E0.out.size))
    have C1 := Lib.hid E1.out
    have R := Lib.hid (ho)
    clear ho
    clear hy E0
    refine hK.out _ _ C1.out (fun _ => ?_)
    clear hK KK
    refine wpAnyH_mono (S' := (fun w' : World => Below Y4x1.heap.size Y4x1 w')) (fun w1 h => C1.out.trans (h.mono C1.out.size)) _ _ _ _ ?_
    clear C1
    try simp only [Act.put, tS1, tS2, tS3]
    refine tkA 16 (?_) ?_ (Below.refl _ _) ?_
    rotate_left
    · (intro w1 hS; go_simp; try with_reducible rfl)
    simp only [Act.put, tS1, tS2, tS3]
    refine wpAnyH_done (by kernel_rfl) ?_ _
    have hy := E1.out
    replace K := Lib.hid (K.out.trans (hy.mono K.out.size))
    replace RP := Lib.hid (RP.out.below hy)
    replace HX := Lib.hid (HX.out.below hy HX.out.lt)
    replace HD := Lib.hid (HD.out.below hy HD.out.lt)
    clear hy E1
    go_wp2
    go_ret
    exact ⟨_, rfl, R.out, K.out⟩
  · rw [hpt, if_neg htp] at CP
    have t1 : ((tp : Int) == 0) = false := by rw [beq_eq_false_iff_ne]; omega
    have t2 : (tp == 0) = false := by rw [beq_eq_false_iff_ne]; omega
    clear hpt
    go_enter Try.func22, Try.ntmps22
    have hal := (Below.refl w.heap.size w).alloc (Nat.le_refl _) (.cells VW 42)
    replace K := Lib.hid (K.out.trans (hal.mono K.out.size))
    replace RP := Lib.hid (RP.out.below hal)
    have HX := Lib.hid (Blk.new w 42 VW)
    clear hal
    have hal := (Below.refl (w.alloc (.cells VW 42)).heap.size (w.alloc (.cells VW 42))).alloc (Nat.le_refl _) (.cells DP 28)
    replace K := Lib.hid (K.out.trans (hal.mono K.out.size))
    replace RP := Lib.hid (RP.out.below hal)
    replace HX := Lib.hid (HX.out.below hal HX.out.lt)
    have HDq := Blk.new (w.alloc (.cells VW 42)) 28 DP
    simp only [World.size_alloc] at HDq
    have HD := Lib.hid HDq
    clear HDq
    clear hal
    go_upto_region 1 with fail
    have hzV1 : Hid (((w.alloc (.cells VW 42)).alloc (.cells DP 28)).heap.size = w.heap.size + 1 + 1) := by show _ = _; simp only [World.size_alloc]
    generalize ((w.alloc (.cells VW 42)).alloc (.cells DP 28)) = V1 at *
    have L15 := (HD.out.cell 17).trans H17.out
    go_wp2_with fail
    clear L15
    refine wp_region_held (S := (fun w' : World => Below (V1.heap.size) V1 w')) (by kernel_rfl) ?_
    change wpAnyH _ _ _ _ _ _ _ _ V1.drew
    have hy : Below V1.heap.size V1 V1.drew := (Below.refl _ _).drew
    have hE0 : Below (V1.heap.size) V1 V1.drew := (Below.refl _ _).drew
    clear hy
    generalize V1.drew = Y4x0 at hE0  ⊢
    have E0 := Lib.hid hE0
    clear hE0
    refine tkA 0 (?_) ?_ E0.out ?_
    rotate_left
    · (intro w1 hS; go_simp; try with_reducible rfl)
    simp only [Act.put, tS1, tS2, tS3]
    refine tkA 1 (?_) ?_ E0.out ?_
    rotate_left
    · (intro w1 hS; go_simp; try with_reducible rfl)
    simp only [Act.put, tS1, tS2, tS3]
    refine tkA 2 (?_) ?_ E0.out ?_
    rotate_left
    · (intro w1 hS; have hW := hS; have q := ((HX.out.below hW HX.out.lt).cell 4).trans H4.out; clear hW hS; go_simp; try with_reducible rfl)
    simp only [Act.put, tS1, tS2, tS3]
    refine tkA 3 (?_) ?_ E0.out ?_
    rotate_left
    · (intro w1 hS; go_simp; try with_reducible rfl)
    simp only [Act.put, tS1, tS2, tS3]
    refine tkA 4 (?_) ?_ E0.out ?_
    rotate_left
    · (intro w1 hS; go_simp; try with_reducible rfl)
    simp only [Act.put, tS1, tS2, tS3]
    refine tkA 5 (?_) ?_ E0.out ?_
    rotate_left
    · (intro w1 hS; have hW := hS; have q := ((HX.out.below hW HX.out.lt).cell 2).trans H2.out; clear hW hS; go_simp; try with_reducible rfl)
    simp only [Act.put, tS1, tS2, tS3]
    refine tkA 6 (?_) ?_ E0.out ?_
    rotate_left
    · (intro w1 hS; go_simp; try with_reducible rfl)
    simp only [Act.put, tS1, tS2, tS3]
    refine tkA 7 (?_) ?_ E0.out ?_
    rotate_left
    · (intro w1 hS; have hW := hS; have q := ((HX.out.below hW HX.out.lt).cell 3).trans H3.out; clear hW hS; go_simp; try with_reducible rfl)
    simp only [Act.put, tS1, tS2, tS3]
    refine tkA 8 (?_) ?_ E0.out ?_
    rotate_left
    · (intro w1 hS; have hW := hS; have q : (sg : Int) ≤ (en : Int) := (by omega); have q3 : (en : Int) ≤ (cap : Int) := (by omega); have q4 : ¬ cap = sg := (by omega); clear hW hS; go_simp; try with_reducible rfl)
    simp only [Act.put, tS1, tS2, tS3]
    refine tkA 9 (?_) ?_ E0.out ?_
    rotate_left
    · (intro w1 hS; go_simp; try with_reducible rfl)
    simp only [Act.put, tS1, tS2, tS3]
    refine tkA 10 (?_) ?_ E0.out ?_
    rotate_left
    · (intro w1 hS; go_simp; try with_reducible rfl)
    simp only [Act.put, tS1, tS2, tS3]
    refine tkA 11 (?_) ?_ E0.out ?_
    rotate_left
    · (intro w1 hS; go_simp; try with_reducible rfl)
    simp only [Act.put, tS1, tS2, tS3]
    refine tkA 12 (.agg CF) ?_ E0.out ?_
    · (intro w1 hS; have hW := hS; exact exec_load 25 (.tmp 26) rfl _ rfl _ (by have h := run_part_load (P := Try.prog) 25 22 CF.toList _ (HX.out.below hW HX.out.lt) PF.out Try.underlying25 rfl IF.out; rwa [Array.toArray_toList] at h))
    simp only [Act.put, tS1, tS2, tS3]
    refine tkA 13 (?_) ?_ E0.out ?_
    rotate_left
    · (intro w1 hS; go_simp; try with_reducible rfl)
    simp only [Act.put, tS1, tS2, tS3]
    refine tkA 14 (.agg DA) ?_ E0.out ?_
    · (intro w1 hS; have hW := hS; exact exec_load 25 (.tmp 28) rfl _ rfl _ (by have h := run_part_load (P := Try.prog) 25 0 DA.toList _ (HD.out.below hW HD.out.lt) PD.out Try.underlying25 rfl ID.out; rwa [Array.toArray_toList] at h))
    simp only [Act.put, tS1, tS2, tS3]
    refine tkO 15 (fun KK hK => ?_)
    go_simp
    refine (CP.out _ _ (RP.out.below E0.out)).mono ?_
    rintro e Y4x1 ⟨x, rfl, ho, hy⟩
    have E1 := Lib.hid (E0.out.trans (hy.mono E0.out.size))
    have C1 := Lib.hid E1.out
    have R := Lib.hid (ho)
    clear ho
    clear hy E0
    refine hK.out _ _ C1.out (fun _ => ?_)
    clear hK KK
    refine wpAnyH_mono (S' := (fun w' : World => Below Y4x1.heap.size Y4x1 w')) (fun w1 h => C1.out.trans (h.mono C1.out.size)) _ _ _ _ ?_
    clear C1
    try simp only [Act.put, tS1, tS2, tS3]
    refine tkA 16 (?_) ?_ (Below.refl _ _) ?_
    rotate_left
    · (intro w1 hS; go_simp; try with_reducible rfl)
    simp only [Act.put, tS1, tS2, tS3]
    refine wpAnyH_done (by kernel_rfl) ?_ _
    have hy := E1.out
    replace K := Lib.hid (K.out.trans (hy.mono K.out.size))
    replace RP := Lib.hid (RP.out.below hy)
    replace HX := Lib.hid (HX.out.below hy HX.out.lt)
    replace HD := Lib.hid (HD.out.below hy HD.out.lt)
    clear hy E1
    go_wp2
    go_ret
    exact ⟨_, rfl, R.out, K.out⟩
end Go.Proofs.Ythionipmohbnhaa
namespace Go.Proofs.Ythionipmohbnhaa
open Go.RowKit
def csN (n : Nat → Nat) : Nat → Nat
  | 0 => 0
  | j + 1 => csN n j + n j
def crN (z : Nat → List Nat) : Nat → List Nat
  | 0 => []
  | j + 1 => crN z j ++ z j
theorem csN_le (n : Nat → Nat) {j k : Nat} (h : j ≤ k) : csN n j ≤ csN n k := by
  induction h with
  | refl => exact Nat.le_refl _
  | step _ ih => exact Nat.le_trans ih (Nat.le_add_right _ _)
theorem lt_cell {w : World} {b o : Nat} {v : Value} (h : w.cell? ⟨b, o, none⟩ = some v) : b < w.heap.size := by
  rcases Nat.lt_or_ge b w.heap.size with q | q
  · exact q
  · simp [World.cell?, Array.getElem?_eq_none q] at h
set_option maxRecDepth 100000 in
set_option maxHeartbeats 2000000 in
theorem concat_four (b : Nat) (a : Nat → Option Addr) (n c : Nat → Nat) (z : Nat → List Nat) (w : World)
    (hc : ∀ j, j < 4 → w.cell? ⟨b, j, none⟩ = some (.slice (a j) (n j) (c j))) (hr : ∀ j, j < 4 → Rd w (.slice (a j) (n j) (c j)) (nus .u8 (z j)))
    (h0 : ∀ j, j < 4 → a j = none → c j = 0) (hl : ∀ j, j < 4 → (z j).length = n j) (hp : 0 < csN n 4) (hm : csN n 4 ≤ 1000000) :
    Calls Try.prog 20 #[.slice (some ⟨b, 0, none⟩) 4 4] w fun e w' => ∃ x, e = .returned x ∧ w'.ownsRow w.heap.size 5 1 x (csN n 4) (nus .u8 (crN z 4)) ∧ Below w.heap.size w w' := by
  have hb : b < w.heap.size := lt_cell (hc 0 (by omega))
  have C := Lib.hid hc
  have H := Lib.hid hr
  have H0 := Lib.hid h0
  have HL := Lib.hid hl
  have M := Lib.hid (fun (j : Nat) (h : j ≤ 4) => Nat.le_trans (csN_le n h) hm)
  obtain ⟨N, hN⟩ : ∃ N, N = csN n 4 := ⟨_, rfl⟩
  have HN := Lib.hid hN
  have hd1 : decide ((N : Int) < 0) = false := decide_eq_false (by omega)
  rw [← hN] at hp hm ⊢
  clear hc hr h0 hl hN
  go_enter Try.func20, Try.ntmps20
  go_wp2_with fail
  go_loop [3, 11] (fun s i => ∃ j : Nat, j ≤ 4 ∧ i = .int .i64 (j : Int) ∧ s = .int .i64 (csN n j : Nat)) (fun _ i => 4 - (intOf i).toNat)
  case atStart => exact ⟨0, by omega, rfl, rfl⟩
  case round =>
    obtain ⟨j, hj, rfl, rfl⟩ := hrel
    by_cases hj4 : j < 4
    · have c0 := C.out j hj4
      have m0 := M.out j hj
      have m1 := M.out (j + 1) hj4
      rw [csN] at m1
      have e1 : IntKind.i64.wrap ((csN n j : Int) + (n j : Int)) = ((csN n (j + 1) : Nat) : Int) := by rw [IntKind.wrap_i64, csN]; omega
      have E1 := Lib.hid e1
      have j1 : (j : Int) < 4 := by omega
      have d1 : decide (((csN n (j + 1) : Nat) : Int) < 0) = false := decide_eq_false (by omega)
      have HT := Lib.hid (show ∃ T, T = csN n (j + 1) from ⟨_, rfl⟩)
      obtain ⟨T, hT⟩ := HT.out
      have HT := Lib.hid hT
      rw [← hT] at e1 d1
      clear E1 hT
      generalize csN n j = S at *
      generalize n j = m at *
      go_wp2
      go_round
      case rel => exact ⟨j + 1, by omega, by go_num, by rw [HT.out]⟩
      case measure => simp [intOf]; omega
    · obtain rfl : j = 4 := by omega
      rw [← HN.out]
      go_wp2_with fail
      refine (grow_nil N w hp hm).mono ?_; rintro e w1 ⟨x, rfl, ho, hbw⟩
      have O := Lib.hid ho
      have B := Lib.hid hbw
      clear ho hbw hd1
      go_wp2_with fail
      go_loopw [6, 27] (fun s i wr => ∃ j : Nat, j ≤ 4 ∧ i = .int .i64 (j : Int) ∧ wr.ownsRow w.heap.size 5 1 s (csN n j) (nus .u8 (crN z j)) ∧ Below w.heap.size w wr) (fun _ i _ => 4 - (intOf i).toNat)
      case atStart => exact ⟨0, by omega, rfl, O.out, B.out⟩
      case round =>
        obtain ⟨j, hj, rfl, ho, hbw⟩ := hrel
        have OJ := Lib.hid ho
        have BJ := Lib.hid hbw
        clear ho hbw
        by_cases hj4 : j < 4
        · have c0 := (BJ.out.cell (p := ⟨b, j, none⟩) hb).trans (C.out j hj4)
          have R1 := Lib.hid ((H.out j hj4).below BJ.out)
          have m0 := M.out j hj
          have hl := HL.out j hj4
          have h0 := Lib.hid (H0.out j hj4)
          have b0 := BJ.out.size
          have m1 := M.out (j + 1) hj4
          rw [csN] at m1
          have j1 : (j : Int) < 4 := by omega
          have EC : Hid (csN n (j + 1) = csN n j + n j) := rfl
          have ER : Hid (crN z (j + 1) = crN z j ++ z j) := rfl
          obtain ⟨T, hT⟩ : ∃ T, T = csN n (j + 1) := ⟨_, rfl⟩
          obtain ⟨U, hU⟩ : ∃ U, U = crN z (j + 1) := ⟨_, rfl⟩
          rw [← hT] at EC
          rw [← hU] at ER
          have HT := Lib.hid hT
          have HU := Lib.hid hU
          clear hT hU
          generalize csN n j = S at *
          generalize crN z j = X at *
          generalize n j = m at *
          generalize z j = Y at *
          generalize a j = A at *
          generalize c j = k at *
          subst hl
          go_wp2_with (at_builtin; refine wpList_app rfl (.tmp 31) (.tmp 32) rfl w.heap.size _ S X rfl OJ.out A Y.length k Y rfl R1.out h0.out ?x0a ?x0b ?x0c)
          case x0a => omega
          case x0b => exact b0
          intro v2 w2 o2 g2
          have K2 := Lib.hid (BJ.out.grown g2 BJ.out.size (fun k e => (OJ.out.lt k e).1))
          have O2 : Hid (w2.ownsRow w.heap.size 5 1 v2 T (nus .u8 U)) := by show World.ownsRow _ _ _ _ _ _ _; rw [EC.out, ER.out]; exact o2
          clear o2 g2 c0 EC ER
          go_wp2
          go_roundw
          case rel => exact ⟨j + 1, by omega, by go_num, by rw [← HT.out, ← HU.out]; exact O2.out, K2.out⟩
          case measure => simp [intOf]; omega
        · obtain rfl : j = 4 := by omega
          rw [← HN.out] at OJ
          have O1 := Lib.hid OJ.out
          clear OJ hj hj4
          go_wp2
          go_ret
          exact ⟨_, rfl, O1.out, BJ.out⟩
end Go.Proofs.Ythionipmohbnhaa
namespace Go.Proofs.Ythionipmohbnhaa
open Go.RowKit Go.Lib
set_option maxRecDepth 100000 in
theorem key79 (d : Nat) (b4 b5 b6 b7 b8 b9 b10 b11 b12 b13 b14 b15 : Nat) (hb : ∀ n ∈ [b4, b5, b6, b7, b8, b9, b10, b11, b12, b13, b14, b15], n < 256) : Try.prog.keyLits (d + 2) 79 [.int .u8 (b4 : Int), .int .u8 (b5 : Int), .int .u8 (b6 : Int), .int .u8 (b7 : Int), .int .u8 (b8 : Int), .int .u8 (b9 : Int), .int .u8 (b10 : Int), .int .u8 (b11 : Int), .int .u8 (b12 : Int), .int .u8 (b13 : Int), .int .u8 (b14 : Int), .int .u8 (b15 : Int)] = some [.int .u8 (b4 : Int), .int .u8 (b5 : Int), .int .u8 (b6 : Int), .int .u8 (b7 : Int), .int .u8 (b8 : Int), .int .u8 (b9 : Int), .int .u8 (b10 : Int), .int .u8 (b11 : Int), .int .u8 (b12 : Int), .int .u8 (b13 : Int), .int .u8 (b14 : Int), .int .u8 (b15 : Int)] := by
  unfold Program.keyLits
  rw [Try.underlying79]
  have hc : Try.prog.cellsOf 5 = 1 := by kernel_rfl
  have hc2 : Try.prog.cellsOf 79 = 12 := by kernel_rfl
  simp only [List.mem_cons, List.not_mem_nil, or_false, forall_eq_or_imp, forall_eq] at hb
  obtain ⟨h4, h5, h6, h7, h8, h9, h10, h11, h12, h13, h14, h15⟩ := hb
  simp [hc, hc2, List.range_succ, key5 d b4 h4, key5 d b5 h5, key5 d b6 h6, key5 d b7 h7, key5 d b8 h8, key5 d b9 h9, key5 d b10 h10, key5 d b11 h11, key5 d b12 h12, key5 d b13 h13, key5 d b14 h14, key5 d b15 h15]
theorem key79t : Try.prog.keyTypeAt 2 79 = true := by kernel_rfl
theorem formed79 (b4 b5 b6 b7 b8 b9 b10 b11 b12 b13 b14 b15 : Nat) : (Value.agg #[.int .u8 (b4 : Int), .int .u8 (b5 : Int), .int .u8 (b6 : Int), .int .u8 (b7 : Int), .int .u8 (b8 : Int), .int .u8 (b9 : Int), .int .u8 (b10 : Int), .int .u8 (b11 : Int), .int .u8 (b12 : Int), .int .u8 (b13 : Int), .int .u8 (b14 : Int), .int .u8 (b15 : Int)]).formed Try.prog 79 = true := by kernel_rfl
theorem formed79z : (Value.agg #[.int .u8 0, .int .u8 0, .int .u8 0, .int .u8 0, .int .u8 0, .int .u8 0, .int .u8 0, .int .u8 0, .int .u8 0, .int .u8 0, .int .u8 0, .int .u8 0]).formed Try.prog 79 = true := by kernel_rfl
theorem key79z : Try.prog.keyLits 2 79 [.int .u8 0, .int .u8 0, .int .u8 0, .int .u8 0, .int .u8 0, .int .u8 0, .int .u8 0, .int .u8 0, .int .u8 0, .int .u8 0, .int .u8 0, .int .u8 0] = some [.int .u8 0, .int .u8 0, .int .u8 0, .int .u8 0, .int .u8 0, .int .u8 0, .int .u8 0, .int .u8 0, .int .u8 0, .int .u8 0, .int .u8 0, .int .u8 0] := by kernel_rfl
set_option maxRecDepth 100000 in
theorem eq79 (b4 b5 b6 b7 b8 b9 b10 b11 b12 b13 b14 b15 : Nat) (hb : ∀ n ∈ [b4, b5, b6, b7, b8, b9, b10, b11, b12, b13, b14, b15], n < 256) (w : World) :
    (Op.equalIn 10000 79 (.agg #[.int .u8 (b4 : Int), .int .u8 (b5 : Int), .int .u8 (b6 : Int), .int .u8 (b7 : Int), .int .u8 (b8 : Int), .int .u8 (b9 : Int), .int .u8 (b10 : Int), .int .u8 (b11 : Int), .int .u8 (b12 : Int), .int .u8 (b13 : Int), .int .u8 (b14 : Int), .int .u8 (b15 : Int)]) (.agg #[.int .u8 0, .int .u8 0, .int .u8 0, .int .u8 0, .int .u8 0, .int .u8 0, .int .u8 0, .int .u8 0, .int .u8 0, .int .u8 0, .int .u8 0, .int .u8 0])).run Try.prog w = .ok (decide ([b4, b5, b6, b7, b8, b9, b10, b11, b12, b13, b14, b15] = List.replicate 12 0)) w := by
  obtain ⟨r, hr, he⟩ := run_equalIn_deep (P := Try.prog) 9998 2 79 key79t w 2 2 _ _ _ _ (formed79 b4 b5 b6 b7 b8 b9 b10 b11 b12 b13 b14 b15) formed79z (key79 0 b4 b5 b6 b7 b8 b9 b10 b11 b12 b13 b14 b15 hb) key79z
  refine hr.trans ?_
  congr 1
  by_cases h : [b4, b5, b6, b7, b8, b9, b10, b11, b12, b13, b14, b15] = List.replicate 12 0
  · rw [decide_eq_true h]
    refine he.2 ?_
    simp only [List.replicate, List.cons.injEq, and_true] at h
    obtain ⟨rfl, rfl, rfl, rfl, rfl, rfl, rfl, rfl, rfl, rfl, rfl, rfl⟩ := h
    rfl
  · rw [decide_eq_false h]
    refine Bool.eq_false_iff.2 (fun q => h ?_)
    have q := he.1 q
    simp at q
    simp [List.replicate]
    omega
set_option maxRecDepth 100000 in
theorem sta79 (g : Nat) (W : World) : (Instr.arrayAt 79 (.slice (some ⟨g, 5, none⟩) 12 12)).run Try.prog W = .ok (.pointer (some ⟨g, 5, none⟩)) W := by rfl
set_option maxRecDepth 100000 in
set_option maxHeartbeats 1000000 in
theorem valid_any (v : Bool) (D : List Nat) (hl : D.length = 16) (hb : ∀ n ∈ D, n < 256) (w : World) :
    Calls Try.prog 19 #[adr v D] w fun e w' => e = .returned (.bool (vldA v D)) ∧ Below w.heap.size w w' := by
  obtain ⟨b0, b1, b2, b3, b4, b5, b6, b7, b8, b9, b10, b11, b12, b13, b14, b15, rfl⟩ := list16 D hl
  have ha : adr v [b0, b1, b2, b3, b4, b5, b6, b7, b8, b9, b10, b11, b12, b13, b14, b15] = .agg #[.bool v, .int .u8 (b0 : Int), .int .u8 (b1 : Int), .int .u8 (b2 : Int), .int .u8 (b3 : Int), .int .u8 (b4 : Int), .int .u8 (b5 : Int), .int .u8 (b6 : Int), .int .u8 (b7 : Int), .int .u8 (b8 : Int), .int .u8 (b9 : Int), .int .u8 (b10 : Int), .int .u8 (b11 : Int), .int .u8 (b12 : Int), .int .u8 (b13 : Int), .int .u8 (b14 : Int), .int .u8 (b15 : Int)] := rfl
  rw [ha]
  have hst := sta79 w.heap.size
  cases v with
  | true =>
    rw [show vldA true [b0, b1, b2, b3, b4, b5, b6, b7, b8, b9, b10, b11, b12, b13, b14, b15] = true from rfl]
    clear hb ha hl
    go_enter Try.func19, Try.ntmps19
    go_wp2_with fail
    go_ret
    exact ⟨rfl, (Below.refl _ w).alloc (Nat.le_refl _) _⟩
  | false =>
    have hv : vldA false [b0, b1, b2, b3, b4, b5, b6, b7, b8, b9, b10, b11, b12, b13, b14, b15] = decide ([b4, b5, b6, b7, b8, b9, b10, b11, b12, b13, b14, b15] = List.replicate 12 0) := by
      rw [Bool.eq_iff_iff, decide_eq_true_iff]
      constructor
      · intro h
        have h := (vldA_spec.1 h).resolve_left (by decide)
        have q := fun i h1 h2 => h i h1 h2
        simp only [List.replicate, List.cons.injEq, and_true]
        exact ⟨q 4 (by omega) (by omega), q 5 (by omega) (by omega), q 6 (by omega) (by omega), q 7 (by omega) (by omega), q 8 (by omega) (by omega), q 9 (by omega) (by omega), q 10 (by omega) (by omega), q 11 (by omega) (by omega), q 12 (by omega) (by omega), q 13 (by omega) (by omega), q 14 (by omega) (by omega), q 15 (by omega) (by omega)⟩
      · intro h
        simp only [List.replicate, List.cons.injEq, and_true] at h
        obtain ⟨rfl, rfl, rfl, rfl, rfl, rfl, rfl, rfl, rfl, rfl, rfl, rfl⟩ := h
        exact vldA_spec.2 (.inr fun i h1 h2 => by
          have : i = 4 ∨ i = 5 ∨ i = 6 ∨ i = 7 ∨ i = 8 ∨ i = 9 ∨ i = 10 ∨ i = 11 ∨ i = 12 ∨ i = 13 ∨ i = 14 ∨ i = 15 := by omega
          rcases this with rfl | rfl | rfl | rfl | rfl | rfl | rfl | rfl | rfl | rfl | rfl | rfl <;> rfl)
    rw [hv]
    have he := eq79 b4 b5 b6 b7 b8 b9 b10 b11 b12 b13 b14 b15 (fun n hn => hb n (.tail _ (.tail _ (.tail _ (.tail _ hn)))))
    generalize decide ([b4, b5, b6, b7, b8, b9, b10, b11, b12, b13, b14, b15] = List.replicate 12 0) = r at *
    have HE := Lib.hid he
    clear hb ha hl hv he
    go_enter Try.func19, Try.ntmps19
    have he := HE.out
    clear HE
    go_wp2_with fail
    go_ret
    exact ⟨rfl, (Below.refl _ w).alloc (Nat.le_refl _) _⟩
end Go.Proofs.Ythionipmohbnhaa
