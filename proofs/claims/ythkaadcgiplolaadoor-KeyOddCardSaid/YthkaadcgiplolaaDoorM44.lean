/- Texts that the walks of this seat lean on, put together. -/
import Derived.Deep.CutBlock
import Derived.Deep.DeepCutAuto
import Derived.Test.YthkaadcgiplolaaDoorTk
import Derived.Test.YthkaadcgiplolaaDoorM05
import Derived.Test.YthkaadcgiplolaaDoorM40
namespace Go.Proofs.YthkaadcgiplolaaDoor
open Go.RowKit
theorem okF_len {zs : List Nat} (h : okF zs = true) : zs.length = 14 ∨ zs.length = 38 := by
  have q := (okF_yes h).2.1
  unfold nF at q
  split at q <;> omega
theorem bad_len {zs : List Nat} (h : zs.length ≠ 14) (h2 : zs.length ≠ 38) : okF zs = false := by
  cases q : okF zs with
  | false => rfl
  | true => rcases okF_len q with h3 | h3
            · exact absurd h3 h
            · exact absurd h3 h2
theorem okF_same {zs ys : List Nat} (h0 : zs.length = ys.length) (h1 : zs.getD 0 0 = ys.getD 0 0) (h2 : zs.getD 1 0 = ys.getD 1 0) : okF zs = okF ys := by
  unfold okF v6F
  rw [h0, h1, h2]
theorem set_other (B : List Nat) (k j c : Nat) (h : k ≠ j) : (B.set k c).getD j 0 = B.getD j 0 := by
  rw [List.getD_eq_getElem?_getD, List.getD_eq_getElem?_getD, List.getElem?_set_ne h]
theorem set_here (B : List Nat) (k c : Nat) (h : k < B.length) : (B.set k c).getD k 0 = c := by
  rw [List.getD_eq_getElem?_getD, List.getElem?_set_self h]
  rfl
theorem bK_at (k : Fl) (hv : vK k = true) : (bK k).getD 0 0 = k.p ∧ (bK k).getD 1 0 = kdN k.sv := by
  rw [bK_yes hv]
  unfold bR
  exact ⟨rfl, rfl⟩
theorem set_same (B : List Nat) (k : Nat) (h : k < B.length) : B.set k (B.getD k 0) = B := by
  refine ext_getD _ _ 0 (by simp) fun i hi => ?_
  by_cases e : k = i
  · subst e; rw [set_here B k _ h]
  · rw [set_other B k i _ e]
theorem odd_cases (f : Fl) (hf : f.Fit) (hv : vK f = true) (k c : Nat) (hk : k < (bK f).length) :
    (1 < k ∧ okF ((bK f).set k c) = true) ∨ (k = 0 ∧ c = 6 ∧ okF ((bK f).set k c) = true) ∨ (k = 0 ∧ c = 17 ∧ okF ((bK f).set k c) = true) ∨ (k = 0 ∧ c ≠ 6 ∧ c ≠ 17 ∧ okF ((bK f).set k c) = false)
      ∨ (k = 1 ∧ c = kdN f.sv ∧ okF ((bK f).set k c) = true) ∨ (k = 1 ∧ c ≠ kdN f.sv ∧ okF ((bK f).set k c) = false) := by
  obtain ⟨h0, h1⟩ := bK_at f hv
  have hl := bK_len f hf hv
  have hok := (back_ok f hf hv).1
  rcases Nat.lt_trichotomy k 1 with h | h | h
  · obtain rfl : k = 0 := by omega
    have q : okF ((bK f).set 0 c) = (decide (c = 6) || decide (c = 17)) := by
      unfold okF v6F
      rw [set_here _ 0 c hk, set_other _ 0 1 c (by omega), List.length_set, h1, hl]
      cases f.sv <;> simp [kdN, nF]
    by_cases e6 : c = 6
    · exact .inr (.inl ⟨rfl, e6, by rw [q, e6]; rfl⟩)
    · by_cases e17 : c = 17
      · exact .inr (.inr (.inl ⟨rfl, e17, by rw [q, e17]; rfl⟩))
      · exact .inr (.inr (.inr (.inl ⟨rfl, e6, e17, by rw [q, decide_eq_false e6, decide_eq_false e17]; rfl⟩)))
  · subst h
    by_cases e : c = kdN f.sv
    · exact .inr (.inr (.inr (.inr (.inl ⟨rfl, e, by rw [e, ← h1, set_same _ 1 hk]; exact hok⟩))))
    · refine .inr (.inr (.inr (.inr (.inr ⟨rfl, e, ?_⟩))))
      cases q : okF ((bK f).set 1 c) with
      | false => rfl
      | true =>
        exfalso
        obtain ⟨q1, q2, -⟩ := okF_yes q
        unfold v6F at q2
        rw [set_here _ 1 c hk, List.length_set, hl] at q2
        rw [set_here _ 1 c hk] at q1
        unfold nF kdN at *
        rcases q1 with rfl | rfl
        · cases hs : f.sv <;> rw [hs] at q2 e <;> simp at q2 e
        · cases hs : f.sv <;> rw [hs] at q2 e <;> simp at q2 e
  · exact .inl ⟨h, by rw [okF_same (List.length_set ..) (set_other _ k 0 c (by omega)) (set_other _ k 1 c (by omega))]; exact hok⟩
end Go.Proofs.YthkaadcgiplolaaDoor
namespace Go.Proofs.YthkaadcgiplolaaDoor
open Go.RowKit Go.Lib
set_option maxRecDepth 100000 in
set_option maxHeartbeats 8000000 in
theorem odd_walk (n : Int) (v6 udp : Bool) (at0 : Int) (c mo : Nat) (hc : c < 256) (hm : mo < 256) (w : World) (hE : Env w) :
    Calls Tryd.prog 5 #[.int .i64 n, .bool v6, .bool udp, .int .i64 at0, .int .u8 (c : Int), .int .u8 (mo : Int)] w fun e w' => e = .returned (.bool true) ∧ Below w.heap.size w w' := by
  have K := Lib.hid (Below.refl w.heap.size w)
  have HE := Lib.hid hE
  have CK := Lib.hid (fun W => flow_any n v6 udp W)
  have hF := kflow_fit n v6 udp
  have hV := kflow_vK n v6 udp
  have CB := Lib.hid (fun W => kbytes_any (kflow n v6 udp) hF W)
  have hl := bK_len (kflow n v6 udp) hF hV
  have hlt := bK_lt (kflow n v6 udp) hF
  have hat := (bK_at (kflow n v6 udp) hV).2
  have hpos : 0 < (bK (kflow n v6 udp)).length := by rw [hl]; omega
  obtain ⟨k, hk⟩ : ∃ k : Nat, k = (at0 % ((bK (kflow n v6 udp)).length : Int)).toNat := ⟨_, rfl⟩
  have hke : at0 % ((bK (kflow n v6 udp)).length : Int) = (k : Int) := by have := Int.emod_nonneg at0 (b := ((bK (kflow n v6 udp)).length : Int)) (by omega); omega
  have hkl : k < (bK (kflow n v6 udp)).length := by have := Int.emod_lt_of_pos at0 (b := ((bK (kflow n v6 udp)).length : Int)) (by omega); omega
  have HC := Lib.hid (odd_cases (kflow n v6 udp) hF hV k c hkl)
  have hmore : okF (bK (kflow n v6 udp) ++ [mo]) = false := bad_len (by rw [List.length_append, hl]; show _ + 1 ≠ 14; unfold nF; split <;> omega) (by rw [List.length_append, hl]; show _ + 1 ≠ 38; unfold nF; split <;> omega)
  have hless : okF ((bK (kflow n v6 udp)).take ((bK (kflow n v6 udp)).length - 1)) = false := bad_len (by rw [List.length_take, hl]; unfold nF; split <;> omega) (by rw [List.length_take, hl]; unfold nF; split <;> omega)
  have hl14 : 14 ≤ (bK (kflow n v6 udp)).length ∧ (bK (kflow n v6 udp)).length ≤ 38 := by rw [hl]; unfold nF; split <;> omega
  have hkd : kdN (kflow n v6 udp).sv < 256 := by unfold kdN; split <;> omega
  obtain ⟨B, hB⟩ : ∃ B, B = bK (kflow n v6 udp) := ⟨_, rfl⟩
  rw [← hB] at CB hlt hat hke hkl hmore hless hl14 HC
  have hSlt : ∀ x ∈ B.set k c, x < 256 := fun x hx => by
    rcases List.mem_or_eq_of_mem_set hx with h | h
    · exact hlt x h
    · omega
  have C1 := Lib.hid (show ∀ W y, Rd W y (nus .u8 (B ++ [mo])) → Calls Tryd.prog 9 #[y] W fun e w' => e = .returned (.tuple #[.agg k0.cs, .int .i64 2]) ∧ Below W.heap.size W w' from fun W y h => by
    have q := kfrom_any y (B ++ [mo]) W h (fun x hx => by
      rcases List.mem_append.1 hx with h | h
      · exact hlt x h
      · have := List.mem_singleton.1 h; omega)
    unfold fcs at q
    rw [hmore] at q
    exact q)
  have C2 := Lib.hid (show ∀ W y, Rd W y (nus .u8 (B.take (B.length - 1))) → Calls Tryd.prog 9 #[y] W fun e w' => e = .returned (.tuple #[.agg k0.cs, .int .i64 2]) ∧ Below W.heap.size W w' from fun W y h => by
    have q := kfrom_any y (B.take (B.length - 1)) W h (fun x hx => hlt x (List.mem_of_mem_take hx))
    unfold fcs at q
    rw [hless] at q
    exact q)
  obtain ⟨er, her⟩ : ∃ er : Int, er = if okF (B.set k c) then 0 else 2 := ⟨_, rfl⟩
  have C3 := Lib.hid (show ∀ W y, Rd W y (nus .u8 (B.set k c)) → Calls Tryd.prog 9 #[y] W fun e w' => e = .returned (.tuple #[.agg (fcs (B.set k c)), .int .i64 er]) ∧ Below W.heap.size W w' from fun W y h => by
    have q := kfrom_any y (B.set k c) W h hSlt
    rw [← her] at q
    exact q)
  obtain ⟨fk, hfk, efk⟩ := fcs_fit (B.set k c) hSlt
  have HG : Hid ((okF (B.set k c) = true ∧ er = 0 ∧ ∀ W, Calls Tryd.prog 13 #[.agg (fcs (B.set k c))] W fun e w' => ∃ x, e = .returned x ∧ Rd w' x (nus .u8 (B.set k c)) ∧ Below W.heap.size W w') ∨ (okF (B.set k c) = false ∧ er = 2)) := by
    cases q : okF (B.set k c) with
    | false => rw [q] at her; exact .inr ⟨rfl, her⟩
    | true =>
      rw [q] at her
      refine .inl ⟨rfl, her, fun W => ?_⟩
      obtain ⟨f1, f2, f3⟩ := fF_ok (B.set k c) q hSlt
      have r := kbytes_any (fF (B.set k c)) f1 W
      rw [f3] at r
      unfold fcs
      rw [q, if_pos rfl]
      exact r
  have sF : (fcs (B.set k c)).size = 37 := by rw [efk]; exact fk.cs_size hfk
  have YF : Hid ((fcs (B.set k c)).size = Array.size (ZcK : Array Value)) := sF
  have QF := Lib.hid (i42.trans (congrArg some sF.symm))
  have AF : Hid ((fcs (B.set k c)).all (·.oneCell') = true) := by show _ = _; rw [efk]; exact fk.cs_all
  have s0 := k0.cs_size k0_fit
  have Y0 : Hid (k0.cs.size = Array.size (ZcK : Array Value)) := s0
  have Q0 := Lib.hid (i42.trans (congrArg some s0.symm))
  have A0 := Lib.hid k0.cs_all
  obtain ⟨lf, hlf⟩ : ∃ x, x = B.length := ⟨_, rfl⟩
  have HLF := Lib.hid hlf
  rw [← hlf] at hl14 hkl hke C2
  have CR := Lib.hid (fun W => round_any at0 lf W (by omega) (by omega))
  rw [hke] at CR
  obtain ⟨l14, l38⟩ := hl14
  have d1 : decide ((lf : Int) < 14) = false := by rw [decide_eq_false_iff_not]; omega
  have d2 : ¬ lf < 14 := by omega
  have d3 : decide (lf < 14) = false := decide_eq_false d2
  have w1 : IntKind.i64.wrap ((lf : Int) - 1) = (lf : Int) - 1 := by rw [IntKind.wrap_i64]; omega
  have HAT := Lib.hid hat
  clear hE hF hV hl hlt hat hpos hk hke hmore hless hB hSlt efk hfk her sF s0 hlf fk
  generalize okF (B.set k c) = g at *
  generalize fcs (B.set k c) = fx at *
  generalize k0.cs = kz at *
  generalize kdN (kflow n v6 udp).sv = kd at *
  generalize (kflow n v6 udp).cs = kc at *
  generalize bK (kflow n v6 udp) = BQ at *
  go_enter Tryd.func5, Tryd.ntmps5
  go_wp2_with fail
  refine (CK.out w).mono ?_
  rintro e V1 ⟨rfl, hy⟩
  replace K := Lib.hid (K.out.trans (hy.mono K.out.size))
  clear hy
  go_wp2_with fail
  refine (CB.out V1).mono ?_
  rintro e V2 ⟨x0, rfl, r0, hy⟩
  replace K := Lib.hid (K.out.trans (hy.mono K.out.size))
  have R0 := Lib.hid (r0)
  clear r0
  obtain ⟨ab, cb, eb, hcx, hcx2⟩ := rd_shape R0.out
  rw [← HLF.out] at eb hcx
  subst eb
  obtain ⟨bx, ox, rfl, hc0⟩ := R0.out.cells (by omega)
  have HB1 := Lib.hid (hc0 1 (by omega))
  have hbl := rd_cell (n := 1) (hc0 1 (by omega))
  clear hc0
  unfold maxLen at hcx2
  clear hy
  go_upto_region 4 with fail
  have KV := Lib.hid (Below.refl V2.heap.size V2)
  have L := Lib.hid (Below.refl V2.heap.size V2)
  have hal := (Below.refl V2.heap.size V2).alloc (Nat.le_refl _) (.cells #[] 5)
  have O := Lib.hid (own_low (b1 := V2.heap.size) L.out.size (own_none V2 5))
  replace L := Lib.hid (L.out.trans (hal.mono L.out.size))
  clear hal
  go_wp2_with ((at_builtin; refine wpList_app rfl (.tmp 32) (.tmp 33) rfl V2.heap.size _ (0) [] rfl O.out (some ⟨bx, ox, none⟩) (lf) (cb) B rfl (R0.out.below L.out) (by intro e; cases e) ?ap1b ?ap1c ?ap1d))
  case ap1b => omega
  case ap1c => first | exact L.out.size | (have q := L.out.size; simp only [World.size_alloc] at q; exact q)
  intro vx V3 oz gz
  replace L := Lib.hid (L.out.grown gz L.out.size (fun k e => by first | exact (O.out.lt k e).1 | (cases e; first | exact Nat.le_refl _ | omega)))
  have oz : V3.ownsRow V2.heap.size 5 1 vx (lf) (nus .u8 (B)) := by first | exact oz | simpa using oz
  replace O := Lib.hid oz
  obtain ⟨g1, c1, rfl, hc1, hc1m, hg1, hg1u⟩ := own_at O.out (by omega)
  clear oz gz
  have hal := (Below.refl V3.heap.size V3).alloc (Nat.le_refl _) (.cells #[Value.int .u8 (mo : Int)] 5)
  have RL := Lib.hid (show Rd (V3.alloc (.cells #[Value.int .u8 (mo : Int)] 5)) (.slice (some ⟨V3.heap.size, 0, none⟩) 1 1) (nus .u8 [mo]) from rd_lit V3 .u8 5 [mo] 1 (0, 0) rfl (by simp [maxLen]))
  replace O := Lib.hid (row_under O.out hal)
  replace L := Lib.hid (L.out.trans (hal.mono L.out.size))
  clear hal
  go_wp2_with ((at_builtin; refine wpList_app rfl (.tmp 34) (.tmp 36) rfl V2.heap.size _ (lf) B rfl O.out (some ⟨V3.heap.size, 0, none⟩) (1) (1) [mo] rfl (RL.out) (by intro e; cases e) ?ap2b ?ap2c ?ap2d))
  case ap2b => omega
  case ap2c => first | exact L.out.size | (have q := L.out.size; simp only [World.size_alloc] at q; exact q)
  intro vx V4 oz gz
  replace L := Lib.hid (L.out.grown gz L.out.size (fun k e => by first | exact (O.out.lt k e).1 | (cases e; first | exact Nat.le_refl _ | omega)))
  have oz : V4.ownsRow V2.heap.size 5 1 vx (lf + 1) (nus .u8 (B ++ [mo])) := by first | exact oz | simpa using oz
  replace O := Lib.hid oz
  obtain ⟨g2, c2, rfl, hc2, hc2m, hg2, hg2u⟩ := own_at O.out (by omega)
  clear oz gz
  clear RL
  have hy := L.out
  replace K := Lib.hid (K.out.trans (hy.mono K.out.size))
  replace R0 := Lib.hid (R0.out.below hy)
  replace KV := Lib.hid (KV.out.trans (hy.mono KV.out.size))
  clear hy L
  have OR := Lib.hid (Rd.own O.out)
  clear O
  go_wp2_with fail
  refine (C1.out V4 _ OR.out).mono ?_
  rintro e V5 ⟨rfl, hy⟩
  replace K := Lib.hid (K.out.trans (hy.mono K.out.size))
  replace R0 := Lib.hid (R0.out.below hy)
  replace KV := Lib.hid (KV.out.trans (hy.mono KV.out.size))
  replace OR := Lib.hid (OR.out.below hy)
  clear hy
  go_wp2_with (((with_reducible refine wpList_blk_store (op := ⟨none, .store 27 (.tmp 14) (.tmp 39), _, _, _, _⟩) ?sg3 27 (.tmp 14) (.tmp 39) ?so3 (V5.heap.size) kz ?sx3 ?sy3 (Blk.new V5 27 ZcK) Y0.out Q0.out A0.out ?_); (case sg3 => rfl); (case so3 => rfl); (case sx3 => rfl); (case sy3 => rfl)))
  intro V6 hA hF hB
  have hy := ((Below.refl V5.heap.size V5).alloc (Nat.le_refl _) (.cells ZcK 27)).trans (hB _ (Nat.le_refl _))
  replace K := Lib.hid (K.out.trans (hy.mono K.out.size))
  replace R0 := Lib.hid (R0.out.below hy)
  replace KV := Lib.hid (KV.out.trans (hy.mono KV.out.size))
  replace OR := Lib.hid (OR.out.below hy)
  have NX := Lib.hid hA
  clear hA hF hB hy
  go_wp2_with fail
  have RF := Lib.hid (R0.out.front (lf - 1) (by rw [← HLF.out]; omega))
  clear OR
  have q1 : (lf : Int) - 1 = ((lf - 1 : Nat) : Int) := by omega
  have q2 : ((lf - 1 : Nat) : Int) ≤ (cb : Int) := by omega
  have q3 : (0 : Int) ≤ ((lf - 1 : Nat) : Int) := by omega
  go_wp2_with fail
  refine (C2.out V6 _ RF.out).mono ?_
  rintro e V7 ⟨rfl, hy⟩
  replace K := Lib.hid (K.out.trans (hy.mono K.out.size))
  replace R0 := Lib.hid (R0.out.below hy)
  replace KV := Lib.hid (KV.out.trans (hy.mono KV.out.size))
  replace NX := Lib.hid (NX.out.below hy NX.out.lt)
  replace RF := Lib.hid (RF.out.below hy)
  clear hy
  go_wp2_with (((with_reducible refine wpList_blk_store (op := ⟨none, .store 27 (.tmp 16) (.tmp 48), _, _, _, _⟩) ?sg4 27 (.tmp 16) (.tmp 48) ?so4 (V7.heap.size) kz ?sx4 ?sy4 (Blk.new V7 27 ZcK) Y0.out Q0.out A0.out ?_); (case sg4 => rfl); (case so4 => rfl); (case sx4 => rfl); (case sy4 => rfl)))
  have qNXNY : V5.heap.size < V7.heap.size := NX.out.lt
  intro V8 hA hF hB
  have hy := ((Below.refl V7.heap.size V7).alloc (Nat.le_refl _) (.cells ZcK 27)).trans (hB _ (Nat.le_refl _))
  replace K := Lib.hid (K.out.trans (hy.mono K.out.size))
  replace R0 := Lib.hid (R0.out.below hy)
  replace KV := Lib.hid (KV.out.trans (hy.mono KV.out.size))
  replace NX := Lib.hid (NX.out.below hy NX.out.lt)
  replace RF := Lib.hid (RF.out.below hy)
  have NY := Lib.hid hA
  clear hA hF hB hy
  clear q1 q2 q3 RF
  go_upto_region 6 with fail
  have hK6 : w.heap.size ≤ V8.heap.size := K.out.size
  have hKV6 : V2.heap.size ≤ V8.heap.size := KV.out.size
  have L := Lib.hid (Below.refl V8.heap.size V8)
  have hal := (Below.refl V8.heap.size V8).alloc (Nat.le_refl _) (.cells #[] 5)
  have O := Lib.hid (own_low (b1 := V8.heap.size) L.out.size (own_none V8 5))
  replace L := Lib.hid (L.out.trans (hal.mono L.out.size))
  clear hal
  go_wp2_with ((at_builtin; refine wpList_app rfl (.tmp 50) (.tmp 51) rfl V8.heap.size _ (0) [] rfl O.out (some ⟨bx, ox, none⟩) (lf) (cb) B rfl (R0.out.below L.out) (by intro e; cases e) ?ap5b ?ap5c ?ap5d))
  case ap5b => omega
  case ap5c => first | exact L.out.size | (have q := L.out.size; simp only [World.size_alloc] at q; exact q)
  intro vx V9 oz gz
  replace L := Lib.hid (L.out.grown gz L.out.size (fun k e => by first | exact (O.out.lt k e).1 | (cases e; first | exact Nat.le_refl _ | omega)))
  have oz : V9.ownsRow V8.heap.size 5 1 vx (lf) (nus .u8 (B)) := by first | exact oz | simpa using oz
  replace O := Lib.hid oz
  obtain ⟨gc, cc, rfl, hcc, hccm, hgc, hgcu⟩ := own_at O.out (by omega)
  clear oz gz
  have hy := L.out
  replace K := Lib.hid (K.out.trans (hy.mono K.out.size))
  replace R0 := Lib.hid (R0.out.below hy)
  replace KV := Lib.hid (KV.out.trans (hy.mono KV.out.size))
  replace NX := Lib.hid (NX.out.below hy NX.out.lt)
  replace NY := Lib.hid (NY.out.below hy NY.out.lt)
  clear hy L
  go_wp2_with fail
  refine (CR.out V9).mono ?_
  rintro e V10 ⟨rfl, rfl⟩
  have b1 : k < lf := hkl
  have ck := O.out.cellAt k (by omega)
  rw [nus_get _ _ _ (by rw [← HLF.out]; omega)] at ck
  have fk := O.out.frozenAt k
  have b2 : (k : Int) < (lf : Int) := by omega
  have b3 : (0 : Int) ≤ (k : Int) := by omega
  go_upto_region 9 with fail
  have hst := O.out.stored k (.int .u8 (c : Int))
  rw [nus_set] at hst
  have gr : V9.grownBy (V9.setCell ⟨gc, k, none⟩ (.int .u8 (c : Int))) (some gc) := hst.2
  replace K := Lib.hid (K.out.grown gr K.out.size (fun k e => by cases e; exact Nat.le_trans hK6 hgc))
  replace KV := Lib.hid (KV.out.grown gr KV.out.size (fun k e => by cases e; exact Nat.le_trans hKV6 hgc))
  replace O := Lib.hid hst.1
  clear ck fk b2 b3 hst gr
  generalize V9.setCell ⟨gc, k, none⟩ (.int .u8 (c : Int)) = V11 at K KV O ⊢
  have OR := Lib.hid (Rd.own O.out)
  clear O
  go_wp2_with fail
  refine (C3.out V11 _ OR.out).mono ?_
  rintro e V12 ⟨rfl, hy⟩
  replace K := Lib.hid (K.out.trans (hy.mono K.out.size))
  replace KV := Lib.hid (KV.out.trans (hy.mono KV.out.size))
  replace OR := Lib.hid (OR.out.below hy)
  clear hy
  go_wp2_with (((with_reducible refine wpList_blk_store (op := ⟨none, .store 27 (.tmp 20) (.tmp 64), _, _, _, _⟩) ?sg6 27 (.tmp 20) (.tmp 64) ?so6 (V12.heap.size) fx ?sx6 ?sy6 (Blk.new V12 27 ZcK) YF.out QF.out AF.out ?_); (case sg6 => rfl); (case so6 => rfl); (case sx6 => rfl); (case sy6 => rfl)))
  intro V13 hA hF hB
  have hy := ((Below.refl V12.heap.size V12).alloc (Nat.le_refl _) (.cells ZcK 27)).trans (hB _ (Nat.le_refl _))
  replace K := Lib.hid (K.out.trans (hy.mono K.out.size))
  replace KV := Lib.hid (KV.out.trans (hy.mono KV.out.size))
  replace OR := Lib.hid (OR.out.below hy)
  have NF := Lib.hid hA
  clear hA hF hB hy
  have hc1 := (KV.out.cell (p := ⟨bx, ox + 1, none⟩) hbl).trans HB1.out
  rw [HAT.out] at hc1
  go_upto_region 10 with fail
  go_cut [22] (fun v wx => v = .bool g ∧ wx = V13)
  case first =>
    clear C1 C2 C3 HG CK CB CR KV K OR
    rcases HC.out with ⟨h1, rfl⟩ | ⟨rfl, rfl, rfl⟩ | ⟨rfl, rfl, rfl⟩ | ⟨rfl, h6, h17, rfl⟩ | ⟨rfl, rfl, rfl⟩ | ⟨rfl, hk, rfl⟩
    · have e1 : decide (1 < (k : Int)) = true := decide_eq_true (by omega)
      clear HC
      go_wp2
      go_meet
      exact ⟨rfl, rfl⟩
    · clear HC
      go_wp2
      go_meet
      exact ⟨rfl, rfl⟩
    · clear HC
      go_wp2
      go_meet
      exact ⟨rfl, rfl⟩
    · have e1 : ((c : Int) == 6) = false := by rw [beq_eq_false_iff_ne]; omega
      have e2 : ((c : Int) == 17) = false := by rw [beq_eq_false_iff_ne]; omega
      clear HC h6 h17
      go_wp2
      go_meet
      exact ⟨rfl, rfl⟩
    · clear HC
      go_wp2
      go_meet
      exact ⟨rfl, rfl⟩
    · have e1 : ((c : Int) == (kd : Int)) = false := by rw [beq_eq_false_iff_ne]; omega
      have e2 : (c == kd) = false := by rw [beq_eq_false_iff_ne]; exact hk
      have e3 : decide (c = kd) = false := decide_eq_false hk
      clear HC hk
      go_wp2
      go_meet
      exact ⟨rfl, rfl⟩
  case rest =>
    obtain ⟨rfl, hw⟩ := hcut
    have hw := hw.symm
    subst hw
    clear HC hc1
    rcases HG.out with ⟨rfl, rfl, CX⟩ | ⟨rfl, rfl⟩
    · have CX := Lib.hid CX
      clear HG
      go_wp2_with fail
      refine wp_region_held (S := (fun w' : World => Below (V13.heap.size) V13 w')) (by kernel_rfl) ?_
      change wpAnyH _ _ _ _ _ _ _ _ V13.drew
      have hy : Below V13.heap.size V13 V13.drew := (Below.refl _ _).drew
      have hE0 : Below (V13.heap.size) V13 V13.drew := (Below.refl _ _).drew
      clear hy
      generalize V13.drew = Y11x0 at hE0  ⊢
      have E0 := Lib.hid hE0
      clear hE0
      refine tkA 0 (?_) ?_ E0.out ?_
      rotate_left
      · (intro w1 hS; go_simp; try with_reducible rfl)
      simp only [Act.put, tS1, tS2, tS3]
      refine tkA 1 (?_) ?_ E0.out ?_
      rotate_left
      · (intro w1 hS; go_simp; try with_reducible rfl)
      simp only [Act.put, tS1, tS2, tS3]
      refine tkA 2 (?_) ?_ E0.out ?_
      rotate_left
      · (intro w1 hS; go_simp; try with_reducible rfl)
      simp only [Act.put, tS1, tS2, tS3]
      refine tkA 3 (?_) ?_ E0.out ?_
      rotate_left
      · (intro w1 hS; go_simp; try with_reducible rfl)
      simp only [Act.put, tS1, tS2, tS3]
      refine tkA 4 (?_) ?_ E0.out ?_
      rotate_left
      · (intro w1 hS; go_simp; try with_reducible rfl)
      simp only [Act.put, tS1, tS2, tS3]
      refine tkA 5 (?_) ?_ E0.out ?_
      rotate_left
      · (intro w1 hS; go_simp; try with_reducible rfl)
      simp only [Act.put, tS1, tS2, tS3]
      refine tkA 6 (?_) ?_ E0.out ?_
      rotate_left
      · (intro w1 hS; go_simp; try with_reducible rfl)
      simp only [Act.put, tS1, tS2, tS3]
      refine tkA 7 (?_) ?_ E0.out ?_
      rotate_left
      · (intro w1 hS; go_simp; try with_reducible rfl)
      simp only [Act.put, tS1, tS2, tS3]
      refine tkA 8 (?_) ?_ E0.out ?_
      rotate_left
      · (intro w1 hS; go_simp; try with_reducible rfl)
      simp only [Act.put, tS1, tS2, tS3]
      refine tkA 9 (?_) ?_ E0.out ?_
      rotate_left
      · (intro w1 hS; go_simp; try with_reducible rfl)
      simp only [Act.put, tS1, tS2, tS3]
      refine tkA 10 (?_) ?_ E0.out ?_
      rotate_left
      · (intro w1 hS; go_simp; try with_reducible rfl)
      simp only [Act.put, tS1, tS2, tS3]
      refine tkA 11 (?_) ?_ E0.out ?_
      rotate_left
      · (intro w1 hS; go_simp; try with_reducible rfl)
      simp only [Act.put, tS1, tS2, tS3]
      refine tkA 12 (?_) ?_ E0.out ?_
      rotate_left
      · (intro w1 hS; go_simp; try with_reducible rfl)
      simp only [Act.put, tS1, tS2, tS3]
      refine tkA 13 (?_) ?_ E0.out ?_
      rotate_left
      · (intro w1 hS; go_simp; try with_reducible rfl)
      simp only [Act.put, tS1, tS2, tS3]
      refine tkA 14 (?_) ?_ E0.out ?_
      rotate_left
      · (intro w1 hS; go_simp; try with_reducible rfl)
      simp only [Act.put, tS1, tS2, tS3]
      refine tkA 15 (?_) ?_ E0.out ?_
      rotate_left
      · (intro w1 hS; go_simp; try with_reducible rfl)
      simp only [Act.put, tS1, tS2, tS3]
      refine tkA 16 (.agg fx) ?_ E0.out ?_
      · (intro w1 hS; have hW := hS; exact exec_load 27 (.tmp 20) rfl _ rfl _ (run_blk_load (P := Tryd.prog) 27 (V12.heap.size) _ (NF.out.below hW NF.out.lt) Tryd.underlying27 rfl QF.out))
      simp only [Act.put, tS1, tS2, tS3]
      refine tkA 19 (?_) ?_ E0.out ?_
      rotate_left
      · (intro w1 hS; go_simp; try with_reducible rfl)
      simp only [Act.put, tS1, tS2, tS3]
      refine tkA 20 (?_) ?_ E0.out ?_
      rotate_left
      · (intro w1 hS; have hW := hS; have q := conv_rd (P := Tryd.prog) w1 28 9 5 Tryd.underlying28 Tryd.underlying5 Tryd.underlying9 _ _ (OR.out.below hW); clear hW hS; go_simp; try with_reducible rfl)
      simp only [Act.put, tS1, tS2, tS3]
      refine tkO 17 (fun KK hK => ?_)
      go_simp
      refine (CX.out Y11x0).mono ?_
      rintro e Y11x1 ⟨x9, rfl, r9, hy⟩
      have E1 := Lib.hid (E0.out.trans (hy.mono E0.out.size))
      have C1 := Lib.hid E1.out
      have R9 := Lib.hid (r9)
      clear r9
      clear hy E0
      refine hK.out _ _ C1.out (fun _ => ?_)
      clear hK KK
      refine wpAnyH_mono (S' := (fun w' : World => Below Y11x1.heap.size Y11x1 w')) (fun w1 h => C1.out.trans (h.mono C1.out.size)) _ _ _ _ ?_
      clear C1
      try simp only [Act.put, tS1, tS2, tS3]
      refine tkA 18 (?_) ?_ (Below.refl _ _) ?_
      rotate_left
      · (intro w1 hS; have hW := E1.out.trans (hS.mono E1.out.size); have q := conv_rd (P := Tryd.prog) w1 28 9 5 Tryd.underlying28 Tryd.underlying5 Tryd.underlying9 _ _ (R9.out.below hS); clear hW hS; go_simp; try with_reducible rfl)
      simp only [Act.put, tS1, tS2, tS3]
      refine tkA 21 (?_) ?_ (Below.refl _ _) ?_
      rotate_left
      · (intro w1 hS; go_simp; try with_reducible rfl)
      simp only [Act.put, tS1, tS2, tS3]
      refine tkA 22 (?_) ?_ (Below.refl _ _) ?_
      rotate_left
      · (intro w1 hS; go_simp; try with_reducible rfl)
      simp only [Act.put, tS1, tS2, tS3]
      refine tkA 23 (?_) ?_ (Below.refl _ _) ?_
      rotate_left
      · (intro w1 hS; go_simp; try with_reducible rfl)
      simp only [Act.put, tS1, tS2, tS3]
      refine tkA 24 (?_) ?_ (Below.refl _ _) ?_
      rotate_left
      · (intro w1 hS; go_simp; try with_reducible rfl)
      simp only [Act.put, tS1, tS2, tS3]
      refine tkO 25 (fun KK hK => ?_)
      go_simp
      refine (awake_any Y11x1 ((HE.out.below K.out).below E1.out)).mono ?_
      rintro e Y11x2 ⟨rfl, hy⟩
      replace R9 := Lib.hid (R9.out.below hy)
      have E2 := Lib.hid (E1.out.trans (hy.mono E1.out.size))
      have C2 := Lib.hid hy
      clear hy E1
      refine hK.out _ _ C2.out (fun _ => ?_)
      clear hK KK
      refine wpAnyH_mono (S' := (fun w' : World => Below Y11x2.heap.size Y11x2 w')) (fun w1 h => C2.out.trans (h.mono C2.out.size)) _ _ _ _ ?_
      clear C2
      try simp only [Act.put, tS1, tS2, tS3]
      refine tkA 26 (?_) ?_ (Below.refl _ _) ?_
      rotate_left
      · (intro w1 hS; go_simp; try with_reducible rfl)
      simp only [Act.put, tS1, tS2, tS3]
      refine tkA 27 (?_) ?_ (Below.refl _ _) ?_
      rotate_left
      · (intro w1 hS; go_simp; try with_reducible rfl)
      simp only [Act.put, tS1, tS2, tS3]
      refine wpAnyH_done (by kernel_rfl) ?_ _
      have hy := E2.out
      replace K := Lib.hid (K.out.trans (hy.mono K.out.size))
      replace KV := Lib.hid (KV.out.trans (hy.mono KV.out.size))
      replace OR := Lib.hid (OR.out.below hy)
      replace NF := Lib.hid (NF.out.below hy NF.out.lt)
      clear hy E2
      go_wp2
      go_ret
      exact ⟨rfl, K.out⟩
    · clear HG
      go_wp2_with fail
      refine wp_region_held (S := (fun w' : World => Below (V13.heap.size) V13 w')) (by kernel_rfl) ?_
      change wpAnyH _ _ _ _ _ _ _ _ V13.drew
      have hy : Below V13.heap.size V13 V13.drew := (Below.refl _ _).drew
      have hE0 : Below (V13.heap.size) V13 V13.drew := (Below.refl _ _).drew
      clear hy
      generalize V13.drew = Y11x0 at hE0  ⊢
      have E0 := Lib.hid hE0
      clear hE0
      refine tkA 0 (?_) ?_ E0.out ?_
      rotate_left
      · (intro w1 hS; go_simp; try with_reducible rfl)
      simp only [Act.put, tS1, tS2, tS3]
      refine tkA 1 (?_) ?_ E0.out ?_
      rotate_left
      · (intro w1 hS; go_simp; try with_reducible rfl)
      simp only [Act.put, tS1, tS2, tS3]
      refine tkA 2 (?_) ?_ E0.out ?_
      rotate_left
      · (intro w1 hS; go_simp; try with_reducible rfl)
      simp only [Act.put, tS1, tS2, tS3]
      refine tkA 3 (?_) ?_ E0.out ?_
      rotate_left
      · (intro w1 hS; go_simp; try with_reducible rfl)
      simp only [Act.put, tS1, tS2, tS3]
      refine tkA 4 (?_) ?_ E0.out ?_
      rotate_left
      · (intro w1 hS; go_simp; try with_reducible rfl)
      simp only [Act.put, tS1, tS2, tS3]
      refine tkA 5 (?_) ?_ E0.out ?_
      rotate_left
      · (intro w1 hS; go_simp; try with_reducible rfl)
      simp only [Act.put, tS1, tS2, tS3]
      refine tkA 6 (?_) ?_ E0.out ?_
      rotate_left
      · (intro w1 hS; go_simp; try with_reducible rfl)
      simp only [Act.put, tS1, tS2, tS3]
      refine tkA 7 (?_) ?_ E0.out ?_
      rotate_left
      · (intro w1 hS; go_simp; try with_reducible rfl)
      simp only [Act.put, tS1, tS2, tS3]
      refine tkA 8 (?_) ?_ E0.out ?_
      rotate_left
      · (intro w1 hS; go_simp; try with_reducible rfl)
      simp only [Act.put, tS1, tS2, tS3]
      refine tkA 9 (?_) ?_ E0.out ?_
      rotate_left
      · (intro w1 hS; go_simp; try with_reducible rfl)
      simp only [Act.put, tS1, tS2, tS3]
      refine tkA 10 (?_) ?_ E0.out ?_
      rotate_left
      · (intro w1 hS; go_simp; try with_reducible rfl)
      simp only [Act.put, tS1, tS2, tS3]
      refine tkA 11 (?_) ?_ E0.out ?_
      rotate_left
      · (intro w1 hS; go_simp; try with_reducible rfl)
      simp only [Act.put, tS1, tS2, tS3]
      refine tkA 12 (?_) ?_ E0.out ?_
      rotate_left
      · (intro w1 hS; go_simp; try with_reducible rfl)
      simp only [Act.put, tS1, tS2, tS3]
      refine tkA 13 (?_) ?_ E0.out ?_
      rotate_left
      · (intro w1 hS; go_simp; try with_reducible rfl)
      simp only [Act.put, tS1, tS2, tS3]
      refine tkA 14 (?_) ?_ E0.out ?_
      rotate_left
      · (intro w1 hS; go_simp; try with_reducible rfl)
      simp only [Act.put, tS1, tS2, tS3]
      refine tkA 15 (?_) ?_ E0.out ?_
      rotate_left
      · (intro w1 hS; go_simp; try with_reducible rfl)
      simp only [Act.put, tS1, tS2, tS3]
      refine tkN 16 E0.out ?_
      simp only [Act.put, tS1, tS2, tS3]
      refine tkN 19 E0.out ?_
      simp only [Act.put, tS1, tS2, tS3]
      refine tkN 20 E0.out ?_
      simp only [Act.put, tS1, tS2, tS3]
      refine tkN 17 E0.out ?_
      simp only [Act.put, tS1, tS2, tS3]
      refine tkN 18 E0.out ?_
      simp only [Act.put, tS1, tS2, tS3]
      refine tkN 21 E0.out ?_
      simp only [Act.put, tS1, tS2, tS3]
      refine tkA 22 (?_) ?_ E0.out ?_
      rotate_left
      · (intro w1 hS; go_simp; try with_reducible rfl)
      simp only [Act.put, tS1, tS2, tS3]
      refine tkA 23 (?_) ?_ E0.out ?_
      rotate_left
      · (intro w1 hS; go_simp; try with_reducible rfl)
      simp only [Act.put, tS1, tS2, tS3]
      refine tkA 24 (?_) ?_ E0.out ?_
      rotate_left
      · (intro w1 hS; go_simp; try with_reducible rfl)
      simp only [Act.put, tS1, tS2, tS3]
      refine tkO 25 (fun KK hK => ?_)
      go_simp
      refine (awake_any Y11x0 ((HE.out.below K.out).below E0.out)).mono ?_
      rintro e Y11x1 ⟨rfl, hy⟩
      have E1 := Lib.hid (E0.out.trans (hy.mono E0.out.size))
      have C1 := Lib.hid E1.out
      clear hy E0
      refine hK.out _ _ C1.out (fun _ => ?_)
      clear hK KK
      refine wpAnyH_mono (S' := (fun w' : World => Below Y11x1.heap.size Y11x1 w')) (fun w1 h => C1.out.trans (h.mono C1.out.size)) _ _ _ _ ?_
      clear C1
      try simp only [Act.put, tS1, tS2, tS3]
      refine tkA 26 (?_) ?_ (Below.refl _ _) ?_
      rotate_left
      · (intro w1 hS; go_simp; try with_reducible rfl)
      simp only [Act.put, tS1, tS2, tS3]
      refine tkA 27 (?_) ?_ (Below.refl _ _) ?_
      rotate_left
      · (intro w1 hS; go_simp; try with_reducible rfl)
      simp only [Act.put, tS1, tS2, tS3]
      refine wpAnyH_done (by kernel_rfl) ?_ _
      have hy := E1.out
      replace K := Lib.hid (K.out.trans (hy.mono K.out.size))
      replace KV := Lib.hid (KV.out.trans (hy.mono KV.out.size))
      replace OR := Lib.hid (OR.out.below hy)
      replace NF := Lib.hid (NF.out.below hy NF.out.lt)
      clear hy E1
      go_wp2
      go_ret
      exact ⟨rfl, K.out⟩
end Go.Proofs.YthkaadcgiplolaaDoor
