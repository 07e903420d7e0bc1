/- Texts that the walks of this seat lean on, put together. -/
import Derived.Test.YthionipmohbnhaaTk
import Derived.Test.YthionipmohbnhaaM19
namespace Go.Proofs.Ythionipmohbnhaa
open Go.RowKit
theorem set_dst (p sp dp : Nat) (S D T : Array Value) (hS : S.size = 17) (hD : D.size = 17) (hT : T.size = 17) : setL (kcells p S D sp dp) 18 T.toList = kcells p S T sp dp := by
  obtain ⟨x0, x1, x2, x3, x4, x5, x6, x7, x8, x9, x10, x11, x12, x13, x14, x15, x16, rfl⟩ := arr17 S hS
  obtain ⟨y0, y1, y2, y3, y4, y5, y6, y7, y8, y9, y10, y11, y12, y13, y14, y15, y16, rfl⟩ := arr17 D hD
  obtain ⟨z0, z1, z2, z3, z4, z5, z6, z7, z8, z9, z10, z11, z12, z13, z14, z15, z16, rfl⟩ := arr17 T hT
  kernel_rfl
theorem set_port (p sp dp x : Nat) (S T : Array Value) (hS : S.size = 17) (hT : T.size = 17) : (kcells p S T sp dp).setIfInBounds 36 (.int .u16 (x : Int)) = kcells p S T sp x := by
  obtain ⟨x0, x1, x2, x3, x4, x5, x6, x7, x8, x9, x10, x11, x12, x13, x14, x15, x16, rfl⟩ := arr17 S hS
  obtain ⟨z0, z1, z2, z3, z4, z5, z6, z7, z8, z9, z10, z11, z12, z13, z14, z15, z16, rfl⟩ := arr17 T hT
  kernel_rfl
theorem set_dip (p : Nat) (T : Array Value) (hT : T.size = 17) : (dcells T p).setIfInBounds 17 (.int .u16 0) = dcells T 0 := by
  obtain ⟨z0, z1, z2, z3, z4, z5, z6, z7, z8, z9, z10, z11, z12, z13, z14, z15, z16, rfl⟩ := arr17 T hT
  kernel_rfl
theorem vget_f (six : Bool) (n s e f : Nat) (k : Array Value) (h : k.size = 37) : (vcells six n s e k f)[41]? = some (.int .u8 (f : Int)) := by
  have : k.toList.length = 37 := by simpa using h
  simp [vcells, this]
theorem meas_lt {L j : Nat} (h : j < L) : L - (intOf (.int .i64 ((j : Int) + 1))).toNat < L - (intOf (.int .i64 (j : Int))).toNat := by simp [intOf]; omega
theorem cmp_eq (p : Nat) (t : Nat) (x : Int) (b : Bool) (h : decide (p = t) = b) (e : x = (t : Int)) : ((p : Int) == x) = b ∧ ((p : Int) != x) = !b ∧ decide ((p : Int) = x) = b := by
  have e2 : decide ((p : Int) = x) = b := by rw [← h]; exact decide_eq_decide.2 (by omega)
  have e1 : ((p : Int) == x) = b := e2
  exact ⟨e1, by rw [bne, e1], e2⟩
theorem blk_far {w : World} {g : Nat} {t : TypeId} {cs : Array Value} (h : Blk w g t cs) (x : Addr) (v : Value) (hne : g ≠ x.block) : Blk (w.setCell x v) g t cs :=
  (heap_setCell_other w x g v (fun e => hne e)).trans h
set_option maxRecDepth 100000 in
set_option maxHeartbeats 8000000 in
theorem goes_t (n : Int) (v udp : Bool) (f : Nat) (a : Option Addr) (la ca : Nat) (zs : List Nat) (tag bare : Bool) (pad m : Int) (w : World) (hr : Rd w (.slice a la ca) (nus .u8 zs)) (hL : zs.length = la) (hna : a = none → ca = 0) (hb : ∀ c ∈ zs, c < 256) (hf : f < 256) :
    Calls Try.prog 4 #[.int .i64 n, .bool v, .bool udp, .int .u8 (f : Int), .slice a la ca, .bool tag, .bool bare, .int .i64 pad, .int .i64 m, .bool true] w fun e w' => e = .returned (.bool true) ∧ Below w.heap.size w w' := by
  have K := Lib.hid (Below.refl w.heap.size w)
  by_cases hA : 400 < la ∨ pad < 0 ∨ 40 < pad
  · clear hr hL hna hb
    by_cases q1 : 400 < la
    · have h5 : decide ((400 : Int) < (la : Int)) = true := decide_eq_true (by omega)
      go_enter Try.func4, Try.ntmps4
      go_wp2_with fail
      refine (awake_any _).mono ?_
      rintro e V1 ⟨rfl, hy⟩
      replace K := Lib.hid (K.out.trans (hy.mono K.out.size))
      clear hy
      go_wp2
      go_ret
      exact ⟨rfl, K.out⟩
    by_cases q2 : pad < 0
    · have h5 : decide ((400 : Int) < (la : Int)) = false := decide_eq_false (by omega)
      go_enter Try.func4, Try.ntmps4
      go_wp2_with fail
      refine (awake_any _).mono ?_
      rintro e V1 ⟨rfl, hy⟩
      replace K := Lib.hid (K.out.trans (hy.mono K.out.size))
      clear hy
      go_wp2
      go_ret
      exact ⟨rfl, K.out⟩
    · have h5 : decide ((400 : Int) < (la : Int)) = false := decide_eq_false (by omega)
      have q3 : 40 < pad := by omega
      go_enter Try.func4, Try.ntmps4
      go_wp2_with fail
      refine (awake_any _).mono ?_
      rintro e V1 ⟨rfl, hy⟩
      replace K := Lib.hid (K.out.trans (hy.mono K.out.size))
      clear hy
      go_wp2
      go_ret
      exact ⟨rfl, K.out⟩
  have hla : la ≤ 400 := by omega
  obtain ⟨pd, rfl⟩ : ∃ pd : Nat, pad = (pd : Int) := ⟨pad.toNat, by omega⟩
  have hpd : pd ≤ 40 := by omega
  have CK := Lib.hid (fun W => flow_any n v udp W)
  obtain ⟨u, hu⟩ : ∃ u : Nat, u = (n % 1073741824).toNat := ⟨_, rfl⟩
  rw [← hu] at CK
  clear hu
  have CP := Lib.hid (fun W => dip_any m v W)
  obtain ⟨q, hq, hq2⟩ : ∃ q : Nat, q = (m % 200).toNat ∧ q < 200 := ⟨_, rfl, by omega⟩
  obtain ⟨p0, hp0, hp1⟩ : ∃ p0 : Nat, p0 = 8000 + (m % 1000).toNat ∧ p0 < 9000 ∧ 8000 ≤ p0 := ⟨_, rfl, by omega, by omega⟩
  rw [← hq, ← hp0] at CP
  clear hq hp0
  obtain ⟨D, hD⟩ : ∃ D, D = dB q ++ List.replicate 12 0 := ⟨_, rfl⟩
  rw [← hD] at CP
  have lD : D.length = 16 := by rw [hD]; rfl
  have bD : ∀ c ∈ D, c < 256 := by
    intro c hc
    rw [hD] at hc
    rcases List.mem_append.1 hc with h | h
    · simp [dB] at h; omega
    · rw [List.eq_of_mem_replicate h]; omega
  have vD : vldA v D = true := by rw [hD]; cases v <;> rfl
  clear hD
  have hBl := fB8_lt u v udp f zs tag bare pd hf hb
  have hS := sent u v udp f zs tag bare (List.replicate pd 0) D p0 (by omega) hBl lD bD vD (by omega)
  have h8 := fB8_told u v udp f zs tag bare (List.replicate pd 0) (by omega)
  have CB := Lib.hid (fun W (h : Rd W (.slice a la ca) (nus .u8 zs)) => fB8_any u v udp f pd a la ca zs tag bare W h hL hna hb (by omega) hf (by omega))
  obtain ⟨tl, htl⟩ : ∃ tl, tl = hN tag := ⟨_, rfl⟩
  have htl2 : tl = 14 ∨ tl = 18 := by rw [htl]; cases tag <;> simp [hN]
  obtain ⟨sg, hsg⟩ : ∃ x, x = tl + hH v := ⟨_, rfl⟩
  obtain ⟨en, hen⟩ : ∃ x, x = tl + hH v + (hsz (pr udp) + zs.length) := ⟨_, rfl⟩
  obtain ⟨fl0, hfl⟩ : ∃ x, x = if pr udp = 6 then f else 0 := ⟨_, rfl⟩
  have hvB := h8.vw
  have hvO := hS.vw
  have hget := hS.get
  rw [← htl] at hvB hvO hget
  rw [← hen, ← hsg, ← hfl] at hvB hvO
  rw [← hsg] at hget
  have hBlen : (fB8 u v udp f zs tag bare (List.replicate pd 0)).length ≤ 600 := by
    rw [h8.len, List.length_replicate]; unfold hN hH hsz; split <;> split <;> split <;> omega
  have hB0 : 0 < (fB8 u v udp f zs tag bare (List.replicate pd 0)).length := by
    rw [h8.len]; unfold hN; split <;> omega
  have hof := hS.of
  have hok := hS.ok
  have hlen := hS.len
  have hOl := hS.lt
  have hOr := hS.rr
  have hOg := hS.gf
  have hBr := h8.rr
  clear hS h8 htl hen
  generalize fB8 u v udp f zs tag bare (List.replicate pd 0) = B at *
  obtain ⟨O, hO⟩ : ∃ O, O = to9 B D p0 := ⟨_, rfl⟩
  rw [← hO] at hvO hget hof hlen hOl hOr hOg
  clear hO
  have CT := Lib.hid (fun W z (h : Rd W z (nus .u8 B)) => to_any z B v D p0 W h hBl (by omega) lD bD (by omega))
  rw [hof, hok] at CT
  have CR1 := Lib.hid (fun W z (h : Rd W z (nus .u8 B)) => rframe_any z B W h hBl (by omega))
  rw [hBr] at CR1
  have CR2 := Lib.hid (fun W z (h : Rd W z (nus .u8 O)) => rframe_any z O W h hOl (by omega))
  rw [hOr] at CR2
  have CG := Lib.hid (fun W z (h : Rd W z (nus .u8 O)) => rfgood_any z O W h hOl (by omega))
  rw [hOg] at CG
  have CF := Lib.hid (fun W x y (h1 : Rd W x (nus .u8 B)) (h2 : Rd W y (nus .u8 O)) => differs_any x y B O W h1 h2 (by omega) (by omega))
  have HGET := Lib.hid (fun p (hp : p ∈ difs B O) => (fun h : p < B.length ∧ O.getD p 0 ≠ B.getD p 0 => (And.intro h.1 (hget p h.2))) (difs_get B O hlen.symm p hp))
  have sS : (cellsA v (sV u)).size = 17 := by rw [cellsA_size, sV_len]
  have sV' : (cellsA v dV).size = 17 := by rw [cellsA_size, dV_len]
  have sD : (cellsA v D).size = 17 := by rw [cellsA_size, lD]
  obtain ⟨KO, hKO⟩ : ∃ x, x = kcells (pr udp) (cellsA v (sV u)) (cellsA v D) (1000 + u % 50000) p0 := ⟨_, rfl⟩
  have hpt : (if p0 = 0 then 80 else p0) = p0 := if_neg (by omega)
  rw [hpt, ← hKO] at hvO
  clear hpt
  have QK := fun W => eq_key (pr udp) (1000 + u % 50000) p0 v (sV u) D (by have := pr_or udp; omega) (by omega) (by omega) (sV_len u) lD (sV_lt u) bD W
  rw [← hKO] at QK
  have sKO : KO.size = 37 := by rw [hKO]; exact kcells_size _ _ _ _ _ sS sD
  have ZKO := Lib.hid (i42.trans (congrArg some sKO.symm))
  have IKO := Lib.hid (i42.trans (congrArg some (show (37 : Nat) = KO.toList.length by simp [sKO])))
  obtain ⟨k2, hk2⟩ : ∃ x, x = kcells (pr udp) (cellsA v (sV u)) (cellsA v D) (1000 + u % 50000) 80 := ⟨_, rfl⟩
  have e1 : setL (flow u v udp) 18 (cellsA v D).toList = k2 := by rw [hk2]; exact set_dst _ _ _ _ _ _ sS sV' sD
  have e2 : k2.setIfInBounds 36 (.int .u16 (p0 : Int)) = KO := by rw [hk2, hKO]; exact set_port _ _ _ _ _ _ sS sD
  have g36 : k2[36]? = some (.int .u16 80) := by rw [hk2]; exact (kget v _ _ (sV_len u) lD _ _ _).2.2.2.2
  have E1 := Lib.hid e1
  have E2 := Lib.hid e2
  have G36 := Lib.hid g36
  have hs1 : 18 + (cellsA v D).size ≤ (flow u v udp).size := by rw [sD, flow_size]; omega
  have HS1 := Lib.hid hs1
  have zk := flow_size u v udp
  have Zk := Lib.hid (i42.trans (congrArg some zk.symm))
  have Yk : Hid ((flow u v udp).size = Array.size (ZcK : Array Value)) := zk
  have Ak := Lib.hid (flow_all u v udp)
  have zd := dcells_size (cellsA v D) p0 sD
  have Zd := Lib.hid (i45.trans (congrArg some zd.symm))
  have Yd : Hid ((dcells (cellsA v D) p0).size = Array.size (ZcD : Array Value)) := zd
  have Ad := Lib.hid (dcells_all (cellsA v D) p0 (cellsA_all _ _))
  have GD := Lib.hid (dip_get (cellsA v D) p0 sD).1
  have PD := Lib.hid (dip_get (cellsA v D) p0 sD).2
  have ID := Lib.hid (i24.trans (congrArg some (show (17 : Nat) = (cellsA v D).toList.length by simp [sD])))
  have ZDA := Lib.hid (i24.trans (congrArg some sD.symm))
  have ADA := Lib.hid (cellsA_all v D)
  have hdz : (dcells (cellsA v D) p0).setIfInBounds 17 (.int .u16 0) = dcells (cellsA v D) 0 := set_dip _ _ sD
  have HDZ := Lib.hid hdz
  have Z0 := Lib.hid (i45.trans (congrArg some (dcells_size (cellsA v D) 0 sD).symm))
  have zB := vw_size B
  have ZB := Lib.hid (i72.trans (congrArg some zB.symm))
  have YB : Hid ((vw B).size = Array.size (ZcV : Array Value)) := zB
  have AB := Lib.hid (vw_all B)
  have zO := vw_size O
  have ZO := Lib.hid (i72.trans (congrArg some zO.symm))
  have YO : Hid ((vw O).size = Array.size (ZcV : Array Value)) := zO
  have AO := Lib.hid (vw_all O)
  have PKO := Lib.hid (show ((vw O).toList.drop 4).take KO.toList.length = KO.toList from by rw [hvO]; simp [vcells])
  have sfl : (flow u v udp).size = 37 := zk
  rw [show kcells (pr udp) (cellsA v (sV u)) (cellsA v dV) (1000 + u % 50000) 80 = flow u v udp from rfl] at hvB
  have B1 := Lib.hid (show (vw B)[1]? = some (.int .i64 (tl : Int)) from by rw [hvB]; rfl)
  have B2 := Lib.hid (show (vw B)[2]? = some (.int .i64 (sg : Int)) from by rw [hvB]; rfl)
  have B3 := Lib.hid (show (vw B)[3]? = some (.int .i64 (en : Int)) from by rw [hvB]; rfl)
  have B5 := Lib.hid (show (vw B)[41]? = some (.int .u8 (fl0 : Int)) from by rw [hvB]; exact vget_f _ _ _ _ _ _ sfl)
  have O1 := Lib.hid (show (vw O)[1]? = some (.int .i64 (tl : Int)) from by rw [hvO]; rfl)
  have O2 := Lib.hid (show (vw O)[2]? = some (.int .i64 (sg : Int)) from by rw [hvO]; rfl)
  have O3 := Lib.hid (show (vw O)[3]? = some (.int .i64 (en : Int)) from by rw [hvO]; rfl)
  have O5 := Lib.hid (show (vw O)[41]? = some (.int .u8 (fl0 : Int)) from by rw [hvO]; exact vget_f _ _ _ _ _ _ sKO)
  have hsg58 : sg ≤ 58 := by rw [hsg]; unfold hH; split <;> omega
  have HR := Lib.hid hr
  have HSG := Lib.hid hsg
  obtain ⟨nb, hnb⟩ : ∃ x, x = B.length := ⟨_, rfl⟩
  rw [← hnb] at CB hBlen hB0 hlen
  have HNB := Lib.hid hnb
  have HLO := Lib.hid hlen
  clear hr hL hna hb hf hq2 lD bD vD hBl hvB hvO hget hof hok hOl hOr hOg hBr sS sV' hKO sKO hk2 e1 e2 g36 zk zd hdz zB zO sfl hsg hnb hlen hs1 hA hfl
  generalize vw B = VB at *
  generalize vw O = VO at *
  generalize flow u v udp = kc at *
  generalize hDP : dcells (cellsA v D) p0 = dc at *
  generalize dcells (cellsA v D) 0 = d0 at *
  clear hDP
  generalize cellsA v D = DA at *
  clear sD
  go_enter Try.func4, Try.ntmps4
  go_wp2_with fail
  refine (CK.out _).mono ?_
  rintro e V1 ⟨rfl, hy⟩
  replace K := Lib.hid (K.out.trans (hy.mono K.out.size))
  clear hy
  go_wp2_with fail
  refine (CP.out _).mono ?_
  rintro e V2 ⟨rfl, hy⟩
  replace K := Lib.hid (K.out.trans (hy.mono K.out.size))
  clear hy
  have hKw := K.out.size
  have hal := (Below.refl V2.heap.size V2).alloc (Nat.le_refl _) (.cells ZcK 37)
  replace K := Lib.hid (K.out.trans (hal.mono K.out.size))
  have NK := Lib.hid (Blk.new V2 37 ZcK)
  clear hal
  have hal := (Below.refl (V2.alloc (.cells ZcK 37)).heap.size (V2.alloc (.cells ZcK 37))).alloc (Nat.le_refl _) (.cells ZcD 28)
  replace K := Lib.hid (K.out.trans (hal.mono K.out.size))
  replace NK := Lib.hid (NK.out.below hal NK.out.lt)
  have NDq := Blk.new (V2.alloc (.cells ZcK 37)) 28 ZcD
  simp only [World.size_alloc] at NDq
  have ND := Lib.hid NDq
  clear NDq
  clear hal
  go_wp2_with (((with_reducible refine wpList_blk_store (op := ⟨none, .store 37 (.tmp 21) (.tmp 52), _, _, _, _⟩) ?sg1 37 (.tmp 21) (.tmp 52) ?so1 (V2.heap.size) kc ?sx1 ?sy1 NK.out Yk.out Zk.out Ak.out ?_); (case sg1 => rfl); (case so1 => rfl); (case sx1 => rfl); (case sy1 => rfl)))
  intro V3 hA hF hB
  replace K := Lib.hid (K.out.trans (hB _ (by omega)))
  replace ND := Lib.hid (show Blk _ _ _ _ from (hF _ (by omega)).trans ND.out)
  replace NK := Lib.hid hA
  clear hA hF hB
  go_wp2_with (((with_reducible refine wpList_blk_store (op := ⟨none, .store 28 (.tmp 22) (.tmp 55), _, _, _, _⟩) ?sg2 28 (.tmp 22) (.tmp 55) ?so2 (V2.heap.size + 1) dc ?sx2 ?sy2 ND.out Yd.out Zd.out Ad.out ?_); (case sg2 => rfl); (case so2 => rfl); (case sx2 => rfl); (case sy2 => rfl)))
  intro V4 hA hF hB
  replace K := Lib.hid (K.out.trans (hB _ (by omega)))
  replace NK := Lib.hid (show Blk _ _ _ _ from (hF _ (by omega)).trans NK.out)
  replace ND := Lib.hid hA
  clear hA hF hB
  have L3 : (loadVar 37 ⟨V2.heap.size, 0, none⟩).run Try.prog V4 = .ok (.agg kc) V4 := run_blk_load (P := Try.prog) 37 (V2.heap.size) _ NK.out Try.underlying37 rfl Zk.out
  replace L3 := Lib.hid L3
  go_wp2_with (((with_reducible refine wpList_load_want (op := ⟨some 59, .load 37 (.tmp 21), _, _, _, _⟩) ?wg3 37 (.tmp 21) ?wo3 ⟨V2.heap.size, 0, none⟩ ?wx3 (.agg kc) L3.out ?_); (case wg3 => rfl); (case wo3 => rfl); (case wx3 => rfl)))
  clear L3
  refine (CB.out _ (HR.out.below K.out)).mono ?_
  rintro e V5 ⟨gb, cb, rfl, ob, hy⟩
  replace K := Lib.hid (K.out.trans (hy.mono K.out.size))
  replace NK := Lib.hid (NK.out.below hy NK.out.lt)
  replace ND := Lib.hid (ND.out.below hy ND.out.lt)
  have RB := Lib.hid (Rd.own ob)
  clear ob
  clear hy
  have L4 : (loadVar 28 ⟨V2.heap.size + 1, 0, none⟩).run Try.prog V5 = .ok (.agg dc) V5 := run_blk_load (P := Try.prog) 28 (V2.heap.size + 1) _ ND.out Try.underlying28 rfl Zd.out
  replace L4 := Lib.hid L4
  go_wp2_with (((with_reducible refine wpList_load_want (op := ⟨some 68, .load 28 (.tmp 22), _, _, _, _⟩) ?wg4 28 (.tmp 22) ?wo4 ⟨V2.heap.size + 1, 0, none⟩ ?wx4 (.agg dc) L4.out ?_); (case wg4 => rfl); (case wo4 => rfl); (case wx4 => rfl)))
  clear L4
  refine (CT.out _ _ RB.out).mono ?_
  rintro e V6 ⟨x1, rfl, rx, hy⟩
  replace K := Lib.hid (K.out.trans (hy.mono K.out.size))
  replace NK := Lib.hid (NK.out.below hy NK.out.lt)
  replace ND := Lib.hid (ND.out.below hy ND.out.lt)
  replace RB := Lib.hid (RB.out.below hy)
  have RO := Lib.hid (rx)
  clear rx
  clear hy
  obtain ⟨ao, co, ex, -, -⟩ := rd_shape RO.out
  rw [HLO.out] at ex
  subst ex
  go_wp2_with fail
  refine (CR1.out _ _ RB.out).mono ?_
  rintro e V7 ⟨rfl, hy⟩
  replace K := Lib.hid (K.out.trans (hy.mono K.out.size))
  replace NK := Lib.hid (NK.out.below hy NK.out.lt)
  replace ND := Lib.hid (ND.out.below hy ND.out.lt)
  replace RB := Lib.hid (RB.out.below hy)
  replace RO := Lib.hid (RO.out.below hy)
  clear hy
  go_wp2_with (((with_reducible refine wpList_blk_store (op := ⟨none, .store 42 (.tmp 26) (.tmp 75), _, _, _, _⟩) ?sg5 42 (.tmp 26) (.tmp 75) ?so5 (V7.heap.size) VB ?sx5 ?sy5 (Blk.new V7 42 ZcV) YB.out ZB.out AB.out ?_); (case sg5 => rfl); (case so5 => rfl); (case sx5 => rfl); (case sy5 => rfl)))
  have qNKN26 : V2.heap.size < V7.heap.size := NK.out.lt
  have qNDN26 : V2.heap.size + 1 < V7.heap.size := ND.out.lt
  intro V8 hA hF hB
  have hy := ((Below.refl V7.heap.size V7).alloc (Nat.le_refl _) (.cells ZcV 42)).trans (hB _ (Nat.le_refl _))
  replace K := Lib.hid (K.out.trans (hy.mono K.out.size))
  replace NK := Lib.hid (NK.out.below hy NK.out.lt)
  replace ND := Lib.hid (ND.out.below hy ND.out.lt)
  replace RB := Lib.hid (RB.out.below hy)
  replace RO := Lib.hid (RO.out.below hy)
  have N26 := Lib.hid hA
  clear hA hF hB hy
  go_wp2_with fail
  refine (CR2.out _ _ RO.out).mono ?_
  rintro e V9 ⟨rfl, hy⟩
  replace K := Lib.hid (K.out.trans (hy.mono K.out.size))
  replace NK := Lib.hid (NK.out.below hy NK.out.lt)
  replace ND := Lib.hid (ND.out.below hy ND.out.lt)
  replace RB := Lib.hid (RB.out.below hy)
  replace RO := Lib.hid (RO.out.below hy)
  replace N26 := Lib.hid (N26.out.below hy N26.out.lt)
  clear hy
  go_wp2_with (((with_reducible refine wpList_blk_store (op := ⟨none, .store 42 (.tmp 28) (.tmp 80), _, _, _, _⟩) ?sg6 42 (.tmp 28) (.tmp 80) ?so6 (V9.heap.size) VO ?sx6 ?sy6 (Blk.new V9 42 ZcV) YO.out ZO.out AO.out ?_); (case sg6 => rfl); (case so6 => rfl); (case sx6 => rfl); (case sy6 => rfl)))
  have qNKN28 : V2.heap.size < V9.heap.size := NK.out.lt
  have qNDN28 : V2.heap.size + 1 < V9.heap.size := ND.out.lt
  have qN26N28 : V7.heap.size < V9.heap.size := N26.out.lt
  intro V10 hA hF hB
  have hy := ((Below.refl V9.heap.size V9).alloc (Nat.le_refl _) (.cells ZcV 42)).trans (hB _ (Nat.le_refl _))
  replace K := Lib.hid (K.out.trans (hy.mono K.out.size))
  replace NK := Lib.hid (NK.out.below hy NK.out.lt)
  replace ND := Lib.hid (ND.out.below hy ND.out.lt)
  replace RB := Lib.hid (RB.out.below hy)
  replace RO := Lib.hid (RO.out.below hy)
  replace N26 := Lib.hid (N26.out.below hy N26.out.lt)
  have N28 := Lib.hid hA
  clear hA hF hB hy
  go_wp2_with fail
  refine (CG.out _ _ RO.out).mono ?_
  rintro e V11 ⟨rfl, hy⟩
  replace K := Lib.hid (K.out.trans (hy.mono K.out.size))
  replace NK := Lib.hid (NK.out.below hy NK.out.lt)
  replace ND := Lib.hid (ND.out.below hy ND.out.lt)
  replace RB := Lib.hid (RB.out.below hy)
  replace RO := Lib.hid (RO.out.below hy)
  replace N26 := Lib.hid (N26.out.below hy N26.out.lt)
  replace N28 := Lib.hid (N28.out.below hy N28.out.lt)
  clear hy
  go_upto_region 12 with fail
  have KQ := Lib.hid (Below.refl V11.heap.size V11)
  have L7 : (loadVar 37 ⟨V2.heap.size, 0, none⟩).run Try.prog V11 = .ok (.agg kc) V11 := run_blk_load (P := Try.prog) 37 (V2.heap.size) _ NK.out Try.underlying37 rfl Zk.out
  replace L7 := Lib.hid L7
  go_wp2_with (first | ((with_reducible refine wpList_load_want (op := ⟨some 104, .load 37 (.tmp 21), _, _, _, _⟩) ?wg7 37 (.tmp 21) ?wo7 ⟨V2.heap.size, 0, none⟩ ?wx7 (.agg kc) L7.out ?_); (case wg7 => rfl); (case wo7 => rfl); (case wx7 => rfl)) | ((with_reducible refine wpList_blk_store (op := ⟨none, .store 37 (.tmp 30) (.tmp 104), _, _, _, _⟩) ?sg8 37 (.tmp 30) (.tmp 104) ?so8 (V11.heap.size) kc ?sx8 ?sy8 (Blk.new V11 37 ZcK) Yk.out Zk.out Ak.out ?_); (case sg8 => rfl); (case so8 => rfl); (case sx8 => rfl); (case sy8 => rfl)))
  clear L7
  have qNKNW : V2.heap.size < V11.heap.size := NK.out.lt
  have qNDNW : V2.heap.size + 1 < V11.heap.size := ND.out.lt
  have qN26NW : V7.heap.size < V11.heap.size := N26.out.lt
  have qN28NW : V9.heap.size < V11.heap.size := N28.out.lt
  intro V12 hA hF hB
  have hy := ((Below.refl V11.heap.size V11).alloc (Nat.le_refl _) (.cells ZcK 37)).trans (hB _ (Nat.le_refl _))
  replace K := Lib.hid (K.out.trans (hy.mono K.out.size))
  replace NK := Lib.hid (NK.out.below hy NK.out.lt)
  replace ND := Lib.hid (ND.out.below hy ND.out.lt)
  replace N26 := Lib.hid (N26.out.below hy N26.out.lt)
  replace N28 := Lib.hid (N28.out.below hy N28.out.lt)
  replace KQ := Lib.hid (KQ.out.trans (hy.mono KQ.out.size))
  have NW := Lib.hid hA
  clear hA hF hB hy
  have L9 : (loadVar 25 ⟨V2.heap.size + 1, 0, none⟩).run Try.prog V12 = .ok (.agg DA) V12 := by have h := run_part_load (P := Try.prog) 25 0 DA.toList _ ND.out PD.out Try.underlying25 rfl ID.out; rwa [Array.toArray_toList] at h
  replace L9 := Lib.hid L9
  go_wp2_with (first | ((with_reducible refine wpList_load_want (op := ⟨some 106, .load 25 (.tmp 105), _, _, _, _⟩) ?wg9 25 (.tmp 105) ?wo9 ⟨V2.heap.size + 1, 0, none⟩ ?wx9 (.agg DA) L9.out ?_); (case wg9 => rfl); (case wo9 => rfl); (case wx9 => rfl)) | ((with_reducible refine wpList_part_store (op := ⟨none, .store 25 (.tmp 107) (.tmp 106), _, _, _, _⟩) ?pg1 25 (.tmp 107) (.tmp 106) ?po1 18 DA ?px1 ?py1 NW.out HS1.out ZDA.out ADA.out ?_); (case pg1 => rfl); (case po1 => rfl); (case px1 => rfl); (case py1 => rfl)))
  clear L9
  intro V13 hA hF hB
  rw [E1.out] at hA
  replace K := Lib.hid (K.out.trans (hB _ (by omega)))
  replace NK := Lib.hid (show Blk _ _ _ _ from (hF _ (by omega)).trans NK.out)
  replace ND := Lib.hid (show Blk _ _ _ _ from (hF _ (by omega)).trans ND.out)
  replace N26 := Lib.hid (show Blk _ _ _ _ from (hF _ (by omega)).trans N26.out)
  replace N28 := Lib.hid (show Blk _ _ _ _ from (hF _ (by omega)).trans N28.out)
  replace KQ := Lib.hid (KQ.out.trans (hB _ (by omega)))
  replace NW := Lib.hid hA
  clear hA hF hB
  go_upto_region 15 with fail
  have c17 := (ND.out.cell 17).trans GD.out
  have c36 := (NW.out.cell 36).trans G36.out
  have f36 := NW.out.frozen 36
  have nw := NW.out.set_ 36 (.int .u16 (p0 : Int))
  rw [E2.out] at nw
  have nK := K.out.setCell (p := ⟨V11.heap.size, 36, none⟩) (by dsimp only; omega) (.int .u16 (p0 : Int))
  have nNK := blk_far NK.out ⟨V11.heap.size, 36, none⟩ (.int .u16 (p0 : Int)) (by dsimp only; omega)
  have nND := blk_far ND.out ⟨V11.heap.size, 36, none⟩ (.int .u16 (p0 : Int)) (by dsimp only; omega)
  have nN26 := blk_far N26.out ⟨V11.heap.size, 36, none⟩ (.int .u16 (p0 : Int)) (by dsimp only; omega)
  have nN28 := blk_far N28.out ⟨V11.heap.size, 36, none⟩ (.int .u16 (p0 : Int)) (by dsimp only; omega)
  have nKQ := KQ.out.setCell (p := ⟨V11.heap.size, 36, none⟩) (by dsimp only; omega) (.int .u16 (p0 : Int))
  have M_NW := Lib.hid nw
  have M_K := Lib.hid nK
  have M_NK := Lib.hid nNK
  have M_ND := Lib.hid nND
  have M_N26 := Lib.hid nN26
  have M_N28 := Lib.hid nN28
  have M_KQ := Lib.hid nKQ
  clear nw nK nNK nND nN26 nN28 nKQ
  go_upto_region 16 with fail
  clear c17 c36 f36 NW K NK ND N26 N28 KQ
  generalize V13.setCell ⟨V11.heap.size, 36, none⟩ (.int .u16 (p0 : Int)) = V14 at *
  have NW := Lib.hid M_NW.out
  have K := Lib.hid M_K.out
  have NK := Lib.hid M_NK.out
  have ND := Lib.hid M_ND.out
  have N26 := Lib.hid M_N26.out
  have N28 := Lib.hid M_N28.out
  have KQ := Lib.hid M_KQ.out
  clear M_NW M_K M_NK M_ND M_N26 M_N28 M_KQ
  have L10 : (loadVar 37 ⟨V9.heap.size, 4, none⟩).run Try.prog V14 = .ok (.agg KO) V14 := by have h := run_part_load (P := Try.prog) 37 4 KO.toList _ N28.out PKO.out Try.underlying37 rfl IKO.out; rwa [Array.toArray_toList] at h
  replace L10 := Lib.hid L10
  have L11 : (loadVar 37 ⟨V11.heap.size, 0, none⟩).run Try.prog V14 = .ok (.agg KO) V14 := run_blk_load (P := Try.prog) 37 (V11.heap.size) _ NW.out Try.underlying37 rfl ZKO.out
  replace L11 := Lib.hid L11
  have L12 := (N28.out.cell 1).trans O1.out
  have L13 := (N26.out.cell 1).trans B1.out
  have L14 := (N28.out.cell 2).trans O2.out
  have L15 := (N26.out.cell 2).trans B2.out
  have L16 := (N28.out.cell 3).trans O3.out
  have L17 := (N26.out.cell 3).trans B3.out
  have L18 := (N28.out.cell 41).trans O5.out
  have L19 := (N26.out.cell 41).trans B5.out
  go_upto_region 18 with (first | ((with_reducible refine wpList_load_want (op := ⟨some 113, .load 37 (.tmp 112), _, _, _, _⟩) ?wg10 37 (.tmp 112) ?wo10 ⟨V9.heap.size, 4, none⟩ ?wx10 (.agg KO) L10.out ?_); (case wg10 => rfl); (case wo10 => rfl); (case wx10 => rfl)) | ((with_reducible refine wpList_load_want (op := ⟨some 114, .load 37 (.tmp 30), _, _, _, _⟩) ?wg11 37 (.tmp 30) ?wo11 ⟨V11.heap.size, 0, none⟩ ?wx11 (.agg KO) L11.out ?_); (case wg11 => rfl); (case wo11 => rfl); (case wx11 => rfl)))
  clear L10 L11 L12 L13 L14 L15 L16 L17 L18 L19
  have f2 := (N26.out.cell 2).trans B2.out
  have s1 : IntKind.i64.wrap ((sg : Int) + 16) = (sg : Int) + 16 := by rw [IntKind.wrap_i64]; omega
  have s2 : IntKind.i64.wrap ((sg : Int) + 6) = (sg : Int) + 6 := by rw [IntKind.wrap_i64]; omega
  go_upto_if 147 with fail
  go_cut [31] (fun x wx => x = .int .i64 ((sg + sAt (pr udp) : Nat) : Int) ∧ wx = V14)
  case first =>
    cases udp with
    | true =>
      go_wp2_with fail
      go_meet
      exact ⟨by simp [sAt, pr], rfl⟩
    | false =>
      go_wp2_with fail
      go_meet
      exact ⟨by simp [sAt, pr], rfl⟩
  case rest =>
    obtain ⟨rfl, hw⟩ := hcut
    have hw := hw.symm
    subst hw
    clear f2 s1 s2
    have RB1 := Lib.hid (RB.out.below KQ.out)
    have RO1 := Lib.hid (RO.out.below KQ.out)
    clear NK ND N28 NW KQ RB RO
    go_wp2_with fail
    refine (CF.out _ _ _ RB1.out RO1.out).mono ?_
    rintro e V15 ⟨xl, rfl, ol, hy⟩
    replace K := Lib.hid (K.out.trans (hy.mono K.out.size))
    replace N26 := Lib.hid (N26.out.below hy N26.out.lt)
    have RL := Lib.hid (Rd.own ol)
    obtain ⟨al, cl, rfl, -, -⟩ := rd_shape RL.out
    clear ol
    clear hy
    obtain ⟨L, hL⟩ : ∃ x, x = (difs B O).length := ⟨_, rfl⟩
    have HLL := Lib.hid hL
    rw [← hL] at RL ⊢
    clear hL
    have hL3 : L ≤ 3000 := by rw [HLL.out]; unfold difs; refine Nat.le_trans (dif_len _ _ _) ?_; rw [HLO.out, ← HNB.out]; omega
    go_wp2_with fail
    go_loop [33] (fun i => ∃ j : Nat, j ≤ L ∧ i = .int .i64 (j : Int)) (fun i => L - (intOf i).toNat)
    case atStart => exact ⟨0, Nat.zero_le _, rfl⟩
    case round =>
      obtain ⟨j, hj, rfl⟩ := hrel
      by_cases hjl : j < L
      · have hji : (j : Int) < (L : Int) := by omega
        have hjw : IntKind.i64.wrap ((j : Int) + 1) = ((j + 1 : Nat) : Int) := by rw [IntKind.wrap_i64]; omega
        obtain ⟨bl, ol, rfl, ql⟩ := RL.out.cells (by omega)
        have cl := ql j hjl
        have hp := HGET.out ((difs B O).getD j 0) (by
          rw [List.getD_eq_getElem?_getD, List.getElem?_eq_getElem (by rw [← HLL.out]; exact hjl)]
          exact List.getElem_mem _)
        generalize (difs B O).getD j 0 = p at *
        rw [← HNB.out] at hp
        clear ql
        have f1 := (N26.out.cell 1).trans B1.out
        have f2 := (N26.out.cell 2).trans B2.out
        have hp2 := hp.2
        have hp1 := hp.1
        clear hp
        have wr10 : IntKind.i64.wrap ((tl : Int) + 10) = (tl : Int) + 10 := by rw [IntKind.wrap_i64]; omega
        have wr11 : IntKind.i64.wrap ((tl : Int) + 11) = (tl : Int) + 11 := by rw [IntKind.wrap_i64]; omega
        have wr16 : IntKind.i64.wrap ((tl : Int) + 16) = (tl : Int) + 16 := by rw [IntKind.wrap_i64]; omega
        have wr20 : IntKind.i64.wrap ((tl : Int) + 20) = (tl : Int) + 20 := by rw [IntKind.wrap_i64]; omega
        have wr24 : IntKind.i64.wrap ((tl : Int) + 24) = (tl : Int) + 24 := by rw [IntKind.wrap_i64]; omega
        have wr40 : IntKind.i64.wrap ((tl : Int) + 40) = (tl : Int) + 40 := by rw [IntKind.wrap_i64]; omega
        have ws2 : IntKind.i64.wrap ((sg : Int) + 2) = (sg : Int) + 2 := by rw [IntKind.wrap_i64]; omega
        have ws3 : IntKind.i64.wrap ((sg : Int) + 3) = (sg : Int) + 3 := by rw [IntKind.wrap_i64]; omega
        have hsa : sAt (pr udp) = 16 ∨ sAt (pr udp) = 6 := by cases udp <;> simp [sAt, pr]
        generalize sAt (pr udp) = sa at *
        have wsa : IntKind.i64.wrap ((sg : Int) + (sa : Int) + 1) = (sg : Int) + (sa : Int) + 1 := by rw [IntKind.wrap_i64]; omega
        obtain ⟨c10, hc10⟩ : ∃ b, b = decide (p = tl + 10) := ⟨_, rfl⟩
        obtain ⟨ic10, jc10, kc10⟩ := cmp_eq p (tl + 10) ((tl : Int) + 10) c10 hc10.symm (by simp)
        have Hc10 := Lib.hid hc10
        clear hc10
        obtain ⟨c11, hc11⟩ : ∃ b, b = decide (p = tl + 11) := ⟨_, rfl⟩
        obtain ⟨ic11, jc11, kc11⟩ := cmp_eq p (tl + 11) ((tl : Int) + 11) c11 hc11.symm (by simp)
        have Hc11 := Lib.hid hc11
        clear hc11
        obtain ⟨x2, hx2⟩ : ∃ b, b = decide (p = sg + 2) := ⟨_, rfl⟩
        obtain ⟨ix2, jx2, kx2⟩ := cmp_eq p (sg + 2) ((sg : Int) + 2) x2 hx2.symm (by simp)
        have Hx2 := Lib.hid hx2
        clear hx2
        obtain ⟨x3, hx3⟩ : ∃ b, b = decide (p = sg + 3) := ⟨_, rfl⟩
        obtain ⟨ix3, jx3, kx3⟩ := cmp_eq p (sg + 3) ((sg : Int) + 3) x3 hx3.symm (by simp)
        have Hx3 := Lib.hid hx3
        clear hx3
        obtain ⟨x4, hx4⟩ : ∃ b, b = decide (p = sg + sa) := ⟨_, rfl⟩
        obtain ⟨ix4, jx4, kx4⟩ := cmp_eq p (sg + sa) ((sg : Int) + (sa : Int)) x4 hx4.symm (by simp)
        have Hx4 := Lib.hid hx4
        clear hx4
        obtain ⟨x5, hx5⟩ : ∃ b, b = decide (p = sg + sa + 1) := ⟨_, rfl⟩
        obtain ⟨ix5, jx5, kx5⟩ := cmp_eq p (sg + sa + 1) ((sg : Int) + (sa : Int) + 1) x5 hx5.symm (by simp)
        have Hx5 := Lib.hid hx5
        clear hx5
        have HF : Hid ((decide (v = false ∧ tl + 16 ≤ p ∧ p < tl + 20 ∨ v = true ∧ tl + 24 ≤ p ∧ p < tl + 40) || (!v && (c10 || c11)) || x2 || x3 || x4 || x5) = true) := by
          show _ = true
          rw [Hc10.out, Hc11.out, Hx2.out, Hx3.out, Hx4.out, Hx5.out]
          rcases hp2 with ⟨rfl, h | h | ⟨h, h'⟩⟩ | ⟨rfl, h, h'⟩ | h | h | h | h <;> simp [h] <;> omega
        clear hp2 Hc10 Hc11 Hx2 Hx3 Hx4 Hx5
        go_upto_region 26 with fail
        go_cut [35] (fun x wx => x = .bool (decide (v = false ∧ tl + 16 ≤ p ∧ p < tl + 20 ∨ v = true ∧ tl + 24 ≤ p ∧ p < tl + 40)) ∧ wx = V15)
        case first =>
          clear HF
          cases v <;> (go_wp2_with fail; all_goals go_meet; all_goals exact ⟨by first | (congr 1; rw [Bool.eq_iff_iff]; simp; omega) | (congr 1; rw [Bool.eq_iff_iff]; simp), rfl⟩)
        case rest =>
          obtain ⟨rfl, hw⟩ := hcut
          have hw := hw.symm
          subst hw
          obtain ⟨ad, had⟩ : ∃ ad, ad = decide (v = false ∧ tl + 16 ≤ p ∧ p < tl + 20 ∨ v = true ∧ tl + 24 ≤ p ∧ p < tl + 40) := ⟨_, rfl⟩
          rw [← had] at HF ⊢
          clear had
          go_upto_region 27 with fail
          go_cut [36] (fun y wx => y = .bool (!v && (c10 || c11)) ∧ wx = V15)
          case first =>
            cases v <;> cases c10 <;> cases c11 <;> (go_wp2_with fail; go_meet; exact ⟨by simp, rfl⟩)
          case rest =>
            obtain ⟨rfl, hw⟩ := hcut
            have hw := hw.symm
            subst hw
            obtain ⟨hd, hhd⟩ : ∃ hd, hd = (!v && (c10 || c11)) := ⟨_, rfl⟩
            rw [← hhd] at HF ⊢
            clear hhd ic10 jc10 kc10 ic11 jc11 kc11
            cases ad with
            | true => (clear HF; as_aux_lemma => (go_wp2; go_round; (case rel => exact ⟨j + 1, hjl, by go_num⟩); (case measure => exact meas_lt hjl)))
            | false =>
              cases hd with
              | true => (clear HF; as_aux_lemma => (go_wp2; go_round; (case rel => exact ⟨j + 1, hjl, by go_num⟩); (case measure => exact meas_lt hjl)))
              | false =>
                cases x2 with
                | true => (clear HF; as_aux_lemma => (go_wp2; go_round; (case rel => exact ⟨j + 1, hjl, by go_num⟩); (case measure => exact meas_lt hjl)))
                | false =>
                  cases x3 with
                  | true => (clear HF; as_aux_lemma => (go_wp2; go_round; (case rel => exact ⟨j + 1, hjl, by go_num⟩); (case measure => exact meas_lt hjl)))
                  | false =>
                    cases x4 with
                    | true => (clear HF; as_aux_lemma => (go_wp2; go_round; (case rel => exact ⟨j + 1, hjl, by go_num⟩); (case measure => exact meas_lt hjl)))
                    | false =>
                      cases x5 with
                      | true => (clear HF; as_aux_lemma => (go_wp2; go_round; (case rel => exact ⟨j + 1, hjl, by go_num⟩); (case measure => exact meas_lt hjl)))
                      | false => exact absurd HF.out (by simp)
      · obtain rfl : L = j := by omega
        go_wp2_with fail
        refine (awake_any _).mono ?_
        rintro e w2 ⟨rfl, hy⟩
        replace K := Lib.hid (K.out.trans (hy.mono K.out.size))
        go_wp2
        go_ret
        exact ⟨rfl, K.out⟩
set_option maxRecDepth 100000 in
set_option maxHeartbeats 8000000 in
theorem goes_f (n : Int) (v udp : Bool) (f : Nat) (a : Option Addr) (la ca : Nat) (zs : List Nat) (tag bare : Bool) (pad m : Int) (w : World) (hr : Rd w (.slice a la ca) (nus .u8 zs)) (hL : zs.length = la) (hna : a = none → ca = 0) (hb : ∀ c ∈ zs, c < 256) (hf : f < 256) :
    Calls Try.prog 4 #[.int .i64 n, .bool v, .bool udp, .int .u8 (f : Int), .slice a la ca, .bool tag, .bool bare, .int .i64 pad, .int .i64 m, .bool false] w fun e w' => e = .returned (.bool true) ∧ Below w.heap.size w w' := by
  have K := Lib.hid (Below.refl w.heap.size w)
  by_cases hA : 400 < la ∨ pad < 0 ∨ 40 < pad
  · clear hr hL hna hb
    by_cases q1 : 400 < la
    · have h5 : decide ((400 : Int) < (la : Int)) = true := decide_eq_true (by omega)
      go_enter Try.func4, Try.ntmps4
      go_wp2_with fail
      refine (awake_any _).mono ?_
      rintro e V1 ⟨rfl, hy⟩
      replace K := Lib.hid (K.out.trans (hy.mono K.out.size))
      clear hy
      go_wp2
      go_ret
      exact ⟨rfl, K.out⟩
    by_cases q2 : pad < 0
    · have h5 : decide ((400 : Int) < (la : Int)) = false := decide_eq_false (by omega)
      go_enter Try.func4, Try.ntmps4
      go_wp2_with fail
      refine (awake_any _).mono ?_
      rintro e V1 ⟨rfl, hy⟩
      replace K := Lib.hid (K.out.trans (hy.mono K.out.size))
      clear hy
      go_wp2
      go_ret
      exact ⟨rfl, K.out⟩
    · have h5 : decide ((400 : Int) < (la : Int)) = false := decide_eq_false (by omega)
      have q3 : 40 < pad := by omega
      go_enter Try.func4, Try.ntmps4
      go_wp2_with fail
      refine (awake_any _).mono ?_
      rintro e V1 ⟨rfl, hy⟩
      replace K := Lib.hid (K.out.trans (hy.mono K.out.size))
      clear hy
      go_wp2
      go_ret
      exact ⟨rfl, K.out⟩
  have hla : la ≤ 400 := by omega
  obtain ⟨pd, rfl⟩ : ∃ pd : Nat, pad = (pd : Int) := ⟨pad.toNat, by omega⟩
  have hpd : pd ≤ 40 := by omega
  have CK := Lib.hid (fun W => flow_any n v udp W)
  obtain ⟨u, hu⟩ : ∃ u : Nat, u = (n % 1073741824).toNat := ⟨_, rfl⟩
  rw [← hu] at CK
  clear hu
  have CP := Lib.hid (fun W => dip_any m v W)
  obtain ⟨q, hq, hq2⟩ : ∃ q : Nat, q = (m % 200).toNat ∧ q < 200 := ⟨_, rfl, by omega⟩
  obtain ⟨p0, hp0, hp1⟩ : ∃ p0 : Nat, p0 = 8000 + (m % 1000).toNat ∧ p0 < 9000 ∧ 8000 ≤ p0 := ⟨_, rfl, by omega, by omega⟩
  rw [← hq, ← hp0] at CP
  clear hq hp0
  obtain ⟨D, hD⟩ : ∃ D, D = dB q ++ List.replicate 12 0 := ⟨_, rfl⟩
  rw [← hD] at CP
  have lD : D.length = 16 := by rw [hD]; rfl
  have bD : ∀ c ∈ D, c < 256 := by
    intro c hc
    rw [hD] at hc
    rcases List.mem_append.1 hc with h | h
    · simp [dB] at h; omega
    · rw [List.eq_of_mem_replicate h]; omega
  have vD : vldA v D = true := by rw [hD]; cases v <;> rfl
  clear hD
  have hBl := fB8_lt u v udp f zs tag bare pd hf hb
  have hS := sent u v udp f zs tag bare (List.replicate pd 0) D 0 (by omega) hBl lD bD vD (by omega)
  have h8 := fB8_told u v udp f zs tag bare (List.replicate pd 0) (by omega)
  have CB := Lib.hid (fun W (h : Rd W (.slice a la ca) (nus .u8 zs)) => fB8_any u v udp f pd a la ca zs tag bare W h hL hna hb (by omega) hf (by omega))
  obtain ⟨tl, htl⟩ : ∃ tl, tl = hN tag := ⟨_, rfl⟩
  have htl2 : tl = 14 ∨ tl = 18 := by rw [htl]; cases tag <;> simp [hN]
  obtain ⟨sg, hsg⟩ : ∃ x, x = tl + hH v := ⟨_, rfl⟩
  obtain ⟨en, hen⟩ : ∃ x, x = tl + hH v + (hsz (pr udp) + zs.length) := ⟨_, rfl⟩
  obtain ⟨fl0, hfl⟩ : ∃ x, x = if pr udp = 6 then f else 0 := ⟨_, rfl⟩
  have hvB := h8.vw
  have hvO := hS.vw
  have hget := hS.get
  rw [← htl] at hvB hvO hget
  rw [← hen, ← hsg, ← hfl] at hvB hvO
  rw [← hsg] at hget
  have hBlen : (fB8 u v udp f zs tag bare (List.replicate pd 0)).length ≤ 600 := by
    rw [h8.len, List.length_replicate]; unfold hN hH hsz; split <;> split <;> split <;> omega
  have hB0 : 0 < (fB8 u v udp f zs tag bare (List.replicate pd 0)).length := by
    rw [h8.len]; unfold hN; split <;> omega
  have hof := hS.of
  have hok := hS.ok
  have hlen := hS.len
  have hOl := hS.lt
  have hOr := hS.rr
  have hOg := hS.gf
  have hBr := h8.rr
  clear hS h8 htl hen
  generalize fB8 u v udp f zs tag bare (List.replicate pd 0) = B at *
  obtain ⟨O, hO⟩ : ∃ O, O = to9 B D 0 := ⟨_, rfl⟩
  rw [← hO] at hvO hget hof hlen hOl hOr hOg
  clear hO
  have CT := Lib.hid (fun W z (h : Rd W z (nus .u8 B)) => to_any z B v D 0 W h hBl (by omega) lD bD (by omega))
  rw [hof, hok] at CT
  have CR1 := Lib.hid (fun W z (h : Rd W z (nus .u8 B)) => rframe_any z B W h hBl (by omega))
  rw [hBr] at CR1
  have CR2 := Lib.hid (fun W z (h : Rd W z (nus .u8 O)) => rframe_any z O W h hOl (by omega))
  rw [hOr] at CR2
  have CG := Lib.hid (fun W z (h : Rd W z (nus .u8 O)) => rfgood_any z O W h hOl (by omega))
  rw [hOg] at CG
  have CF := Lib.hid (fun W x y (h1 : Rd W x (nus .u8 B)) (h2 : Rd W y (nus .u8 O)) => differs_any x y B O W h1 h2 (by omega) (by omega))
  have HGET := Lib.hid (fun p (hp : p ∈ difs B O) => (fun h : p < B.length ∧ O.getD p 0 ≠ B.getD p 0 => (And.intro h.1 (hget p h.2))) (difs_get B O hlen.symm p hp))
  have sS : (cellsA v (sV u)).size = 17 := by rw [cellsA_size, sV_len]
  have sV' : (cellsA v dV).size = 17 := by rw [cellsA_size, dV_len]
  have sD : (cellsA v D).size = 17 := by rw [cellsA_size, lD]
  obtain ⟨KO, hKO⟩ : ∃ x, x = kcells (pr udp) (cellsA v (sV u)) (cellsA v D) (1000 + u % 50000) 80 := ⟨_, rfl⟩
  have hpt : (if (0 : Nat) = 0 then 80 else 0) = 80 := if_pos rfl
  rw [hpt, ← hKO] at hvO
  clear hpt
  have QK := fun W => eq_key (pr udp) (1000 + u % 50000) 80 v (sV u) D (by have := pr_or udp; omega) (by omega) (by omega) (sV_len u) lD (sV_lt u) bD W
  rw [← hKO] at QK
  have sKO : KO.size = 37 := by rw [hKO]; exact kcells_size _ _ _ _ _ sS sD
  have ZKO := Lib.hid (i42.trans (congrArg some sKO.symm))
  have IKO := Lib.hid (i42.trans (congrArg some (show (37 : Nat) = KO.toList.length by simp [sKO])))
  obtain ⟨k2, hk2⟩ : ∃ x, x = kcells (pr udp) (cellsA v (sV u)) (cellsA v D) (1000 + u % 50000) 80 := ⟨_, rfl⟩
  have e1 : setL (flow u v udp) 18 (cellsA v D).toList = k2 := by rw [hk2]; exact set_dst _ _ _ _ _ _ sS sV' sD
  have e2 : k2 = KO := by rw [hk2, hKO]
  have g36 : k2[36]? = some (.int .u16 80) := by rw [hk2]; exact (kget v _ _ (sV_len u) lD _ _ _).2.2.2.2
  have E1 := Lib.hid e1
  have E2 := Lib.hid e2
  have G36 := Lib.hid g36
  have hs1 : 18 + (cellsA v D).size ≤ (flow u v udp).size := by rw [sD, flow_size]; omega
  have HS1 := Lib.hid hs1
  have zk := flow_size u v udp
  have Zk := Lib.hid (i42.trans (congrArg some zk.symm))
  have Yk : Hid ((flow u v udp).size = Array.size (ZcK : Array Value)) := zk
  have Ak := Lib.hid (flow_all u v udp)
  have zd := dcells_size (cellsA v D) p0 sD
  have Zd := Lib.hid (i45.trans (congrArg some zd.symm))
  have Yd : Hid ((dcells (cellsA v D) p0).size = Array.size (ZcD : Array Value)) := zd
  have Ad := Lib.hid (dcells_all (cellsA v D) p0 (cellsA_all _ _))
  have GD := Lib.hid (dip_get (cellsA v D) p0 sD).1
  have PD := Lib.hid (dip_get (cellsA v D) 0 sD).2
  have ID := Lib.hid (i24.trans (congrArg some (show (17 : Nat) = (cellsA v D).toList.length by simp [sD])))
  have ZDA := Lib.hid (i24.trans (congrArg some sD.symm))
  have ADA := Lib.hid (cellsA_all v D)
  have hdz : (dcells (cellsA v D) p0).setIfInBounds 17 (.int .u16 0) = dcells (cellsA v D) 0 := set_dip _ _ sD
  have HDZ := Lib.hid hdz
  have Z0 := Lib.hid (i45.trans (congrArg some (dcells_size (cellsA v D) 0 sD).symm))
  have zB := vw_size B
  have ZB := Lib.hid (i72.trans (congrArg some zB.symm))
  have YB : Hid ((vw B).size = Array.size (ZcV : Array Value)) := zB
  have AB := Lib.hid (vw_all B)
  have zO := vw_size O
  have ZO := Lib.hid (i72.trans (congrArg some zO.symm))
  have YO : Hid ((vw O).size = Array.size (ZcV : Array Value)) := zO
  have AO := Lib.hid (vw_all O)
  have PKO := Lib.hid (show ((vw O).toList.drop 4).take KO.toList.length = KO.toList from by rw [hvO]; simp [vcells])
  have sfl : (flow u v udp).size = 37 := zk
  rw [show kcells (pr udp) (cellsA v (sV u)) (cellsA v dV) (1000 + u % 50000) 80 = flow u v udp from rfl] at hvB
  have B1 := Lib.hid (show (vw B)[1]? = some (.int .i64 (tl : Int)) from by rw [hvB]; rfl)
  have B2 := Lib.hid (show (vw B)[2]? = some (.int .i64 (sg : Int)) from by rw [hvB]; rfl)
  have B3 := Lib.hid (show (vw B)[3]? = some (.int .i64 (en : Int)) from by rw [hvB]; rfl)
  have B5 := Lib.hid (show (vw B)[41]? = some (.int .u8 (fl0 : Int)) from by rw [hvB]; exact vget_f _ _ _ _ _ _ sfl)
  have O1 := Lib.hid (show (vw O)[1]? = some (.int .i64 (tl : Int)) from by rw [hvO]; rfl)
  have O2 := Lib.hid (show (vw O)[2]? = some (.int .i64 (sg : Int)) from by rw [hvO]; rfl)
  have O3 := Lib.hid (show (vw O)[3]? = some (.int .i64 (en : Int)) from by rw [hvO]; rfl)
  have O5 := Lib.hid (show (vw O)[41]? = some (.int .u8 (fl0 : Int)) from by rw [hvO]; exact vget_f _ _ _ _ _ _ sKO)
  have hsg58 : sg ≤ 58 := by rw [hsg]; unfold hH; split <;> omega
  have HR := Lib.hid hr
  have HSG := Lib.hid hsg
  obtain ⟨nb, hnb⟩ : ∃ x, x = B.length := ⟨_, rfl⟩
  rw [← hnb] at CB hBlen hB0 hlen
  have HNB := Lib.hid hnb
  have HLO := Lib.hid hlen
  clear hr hL hna hb hf hq2 lD bD vD hBl hvB hvO hget hof hok hOl hOr hOg hBr sS sV' hKO sKO hk2 e1 e2 g36 zk zd hdz zB zO sfl hsg hnb hlen hs1 hA hfl
  generalize vw B = VB at *
  generalize vw O = VO at *
  generalize flow u v udp = kc at *
  generalize hDP : dcells (cellsA v D) p0 = dc at *
  generalize dcells (cellsA v D) 0 = d0 at *
  clear hDP
  generalize cellsA v D = DA at *
  clear sD
  go_enter Try.func4, Try.ntmps4
  go_wp2_with fail
  refine (CK.out _).mono ?_
  rintro e V1 ⟨rfl, hy⟩
  replace K := Lib.hid (K.out.trans (hy.mono K.out.size))
  clear hy
  go_wp2_with fail
  refine (CP.out _).mono ?_
  rintro e V2 ⟨rfl, hy⟩
  replace K := Lib.hid (K.out.trans (hy.mono K.out.size))
  clear hy
  have hKw := K.out.size
  have hal := (Below.refl V2.heap.size V2).alloc (Nat.le_refl _) (.cells ZcK 37)
  replace K := Lib.hid (K.out.trans (hal.mono K.out.size))
  have NK := Lib.hid (Blk.new V2 37 ZcK)
  clear hal
  have hal := (Below.refl (V2.alloc (.cells ZcK 37)).heap.size (V2.alloc (.cells ZcK 37))).alloc (Nat.le_refl _) (.cells ZcD 28)
  replace K := Lib.hid (K.out.trans (hal.mono K.out.size))
  replace NK := Lib.hid (NK.out.below hal NK.out.lt)
  have NDq := Blk.new (V2.alloc (.cells ZcK 37)) 28 ZcD
  simp only [World.size_alloc] at NDq
  have ND := Lib.hid NDq
  clear NDq
  clear hal
  go_wp2_with (((with_reducible refine wpList_blk_store (op := ⟨none, .store 37 (.tmp 21) (.tmp 52), _, _, _, _⟩) ?sg20 37 (.tmp 21) (.tmp 52) ?so20 (V2.heap.size) kc ?sx20 ?sy20 NK.out Yk.out Zk.out Ak.out ?_); (case sg20 => rfl); (case so20 => rfl); (case sx20 => rfl); (case sy20 => rfl)))
  intro V3 hA hF hB
  replace K := Lib.hid (K.out.trans (hB _ (by omega)))
  replace ND := Lib.hid (show Blk _ _ _ _ from (hF _ (by omega)).trans ND.out)
  replace NK := Lib.hid hA
  clear hA hF hB
  go_wp2_with (((with_reducible refine wpList_blk_store (op := ⟨none, .store 28 (.tmp 22) (.tmp 55), _, _, _, _⟩) ?sg21 28 (.tmp 22) (.tmp 55) ?so21 (V2.heap.size + 1) dc ?sx21 ?sy21 ND.out Yd.out Zd.out Ad.out ?_); (case sg21 => rfl); (case so21 => rfl); (case sx21 => rfl); (case sy21 => rfl)))
  intro V4 hA hF hB
  replace K := Lib.hid (K.out.trans (hB _ (by omega)))
  replace NK := Lib.hid (show Blk _ _ _ _ from (hF _ (by omega)).trans NK.out)
  replace ND := Lib.hid hA
  clear hA hF hB
  go_upto_region 5 with fail
  have c17 := (ND.out.cell 17).trans GD.out
  have f17 := ND.out.frozen 17
  have nd := ND.out.set_ 17 (.int .u16 0)
  rw [HDZ.out] at nd
  have nk := blk_far NK.out ⟨V2.heap.size + 1, 17, none⟩ (.int .u16 0) (show V2.heap.size ≠ V2.heap.size + 1 by omega)
  have hk := K.out.setCell (p := ⟨V2.heap.size + 1, 17, none⟩) (show w.heap.size ≤ V2.heap.size + 1 by omega) (.int .u16 0)
  have NDN := Lib.hid nd
  have NKN := Lib.hid nk
  have KN := Lib.hid hk
  clear nd nk hk ND NK K
  go_upto_region 6 with fail
  clear c17 f17
  generalize V4.setCell ⟨V2.heap.size + 1, 17, none⟩ (.int .u16 0) = V5 at *
  have K := Lib.hid KN.out
  have NK := Lib.hid NKN.out
  have ND := Lib.hid NDN.out
  clear KN NKN NDN
  have L22 : (loadVar 37 ⟨V2.heap.size, 0, none⟩).run Try.prog V5 = .ok (.agg kc) V5 := run_blk_load (P := Try.prog) 37 (V2.heap.size) _ NK.out Try.underlying37 rfl Zk.out
  replace L22 := Lib.hid L22
  go_wp2_with (((with_reducible refine wpList_load_want (op := ⟨some 59, .load 37 (.tmp 21), _, _, _, _⟩) ?wg22 37 (.tmp 21) ?wo22 ⟨V2.heap.size, 0, none⟩ ?wx22 (.agg kc) L22.out ?_); (case wg22 => rfl); (case wo22 => rfl); (case wx22 => rfl)))
  clear L22
  refine (CB.out _ (HR.out.below K.out)).mono ?_
  rintro e V6 ⟨gb, cb, rfl, ob, hy⟩
  replace K := Lib.hid (K.out.trans (hy.mono K.out.size))
  replace NK := Lib.hid (NK.out.below hy NK.out.lt)
  replace ND := Lib.hid (ND.out.below hy ND.out.lt)
  have RB := Lib.hid (Rd.own ob)
  clear ob
  clear hy
  have L23 : (loadVar 28 ⟨V2.heap.size + 1, 0, none⟩).run Try.prog V6 = .ok (.agg d0) V6 := run_blk_load (P := Try.prog) 28 (V2.heap.size + 1) _ ND.out Try.underlying28 rfl Z0.out
  replace L23 := Lib.hid L23
  go_wp2_with (((with_reducible refine wpList_load_want (op := ⟨some 68, .load 28 (.tmp 22), _, _, _, _⟩) ?wg23 28 (.tmp 22) ?wo23 ⟨V2.heap.size + 1, 0, none⟩ ?wx23 (.agg d0) L23.out ?_); (case wg23 => rfl); (case wo23 => rfl); (case wx23 => rfl)))
  clear L23
  refine (CT.out _ _ RB.out).mono ?_
  rintro e V7 ⟨x1, rfl, rx, hy⟩
  replace K := Lib.hid (K.out.trans (hy.mono K.out.size))
  replace NK := Lib.hid (NK.out.below hy NK.out.lt)
  replace ND := Lib.hid (ND.out.below hy ND.out.lt)
  replace RB := Lib.hid (RB.out.below hy)
  have RO := Lib.hid (rx)
  clear rx
  clear hy
  obtain ⟨ao, co, ex, -, -⟩ := rd_shape RO.out
  rw [HLO.out] at ex
  subst ex
  go_wp2_with fail
  refine (CR1.out _ _ RB.out).mono ?_
  rintro e V8 ⟨rfl, hy⟩
  replace K := Lib.hid (K.out.trans (hy.mono K.out.size))
  replace NK := Lib.hid (NK.out.below hy NK.out.lt)
  replace ND := Lib.hid (ND.out.below hy ND.out.lt)
  replace RB := Lib.hid (RB.out.below hy)
  replace RO := Lib.hid (RO.out.below hy)
  clear hy
  go_wp2_with (((with_reducible refine wpList_blk_store (op := ⟨none, .store 42 (.tmp 26) (.tmp 75), _, _, _, _⟩) ?sg24 42 (.tmp 26) (.tmp 75) ?so24 (V8.heap.size) VB ?sx24 ?sy24 (Blk.new V8 42 ZcV) YB.out ZB.out AB.out ?_); (case sg24 => rfl); (case so24 => rfl); (case sx24 => rfl); (case sy24 => rfl)))
  have qNKN26 : V2.heap.size < V8.heap.size := NK.out.lt
  have qNDN26 : V2.heap.size + 1 < V8.heap.size := ND.out.lt
  intro V9 hA hF hB
  have hy := ((Below.refl V8.heap.size V8).alloc (Nat.le_refl _) (.cells ZcV 42)).trans (hB _ (Nat.le_refl _))
  replace K := Lib.hid (K.out.trans (hy.mono K.out.size))
  replace NK := Lib.hid (NK.out.below hy NK.out.lt)
  replace ND := Lib.hid (ND.out.below hy ND.out.lt)
  replace RB := Lib.hid (RB.out.below hy)
  replace RO := Lib.hid (RO.out.below hy)
  have N26 := Lib.hid hA
  clear hA hF hB hy
  go_wp2_with fail
  refine (CR2.out _ _ RO.out).mono ?_
  rintro e V10 ⟨rfl, hy⟩
  replace K := Lib.hid (K.out.trans (hy.mono K.out.size))
  replace NK := Lib.hid (NK.out.below hy NK.out.lt)
  replace ND := Lib.hid (ND.out.below hy ND.out.lt)
  replace RB := Lib.hid (RB.out.below hy)
  replace RO := Lib.hid (RO.out.below hy)
  replace N26 := Lib.hid (N26.out.below hy N26.out.lt)
  clear hy
  go_wp2_with (((with_reducible refine wpList_blk_store (op := ⟨none, .store 42 (.tmp 28) (.tmp 80), _, _, _, _⟩) ?sg25 42 (.tmp 28) (.tmp 80) ?so25 (V10.heap.size) VO ?sx25 ?sy25 (Blk.new V10 42 ZcV) YO.out ZO.out AO.out ?_); (case sg25 => rfl); (case so25 => rfl); (case sx25 => rfl); (case sy25 => rfl)))
  have qNKN28 : V2.heap.size < V10.heap.size := NK.out.lt
  have qNDN28 : V2.heap.size + 1 < V10.heap.size := ND.out.lt
  have qN26N28 : V8.heap.size < V10.heap.size := N26.out.lt
  intro V11 hA hF hB
  have hy := ((Below.refl V10.heap.size V10).alloc (Nat.le_refl _) (.cells ZcV 42)).trans (hB _ (Nat.le_refl _))
  replace K := Lib.hid (K.out.trans (hy.mono K.out.size))
  replace NK := Lib.hid (NK.out.below hy NK.out.lt)
  replace ND := Lib.hid (ND.out.below hy ND.out.lt)
  replace RB := Lib.hid (RB.out.below hy)
  replace RO := Lib.hid (RO.out.below hy)
  replace N26 := Lib.hid (N26.out.below hy N26.out.lt)
  have N28 := Lib.hid hA
  clear hA hF hB hy
  go_wp2_with fail
  refine (CG.out _ _ RO.out).mono ?_
  rintro e V12 ⟨rfl, hy⟩
  replace K := Lib.hid (K.out.trans (hy.mono K.out.size))
  replace NK := Lib.hid (NK.out.below hy NK.out.lt)
  replace ND := Lib.hid (ND.out.below hy ND.out.lt)
  replace RB := Lib.hid (RB.out.below hy)
  replace RO := Lib.hid (RO.out.below hy)
  replace N26 := Lib.hid (N26.out.below hy N26.out.lt)
  replace N28 := Lib.hid (N28.out.below hy N28.out.lt)
  clear hy
  go_upto_region 12 with fail
  have KQ := Lib.hid (Below.refl V12.heap.size V12)
  have L26 : (loadVar 37 ⟨V2.heap.size, 0, none⟩).run Try.prog V12 = .ok (.agg kc) V12 := run_blk_load (P := Try.prog) 37 (V2.heap.size) _ NK.out Try.underlying37 rfl Zk.out
  replace L26 := Lib.hid L26
  go_wp2_with (first | ((with_reducible refine wpList_load_want (op := ⟨some 104, .load 37 (.tmp 21), _, _, _, _⟩) ?wg26 37 (.tmp 21) ?wo26 ⟨V2.heap.size, 0, none⟩ ?wx26 (.agg kc) L26.out ?_); (case wg26 => rfl); (case wo26 => rfl); (case wx26 => rfl)) | ((with_reducible refine wpList_blk_store (op := ⟨none, .store 37 (.tmp 30) (.tmp 104), _, _, _, _⟩) ?sg27 37 (.tmp 30) (.tmp 104) ?so27 (V12.heap.size) kc ?sx27 ?sy27 (Blk.new V12 37 ZcK) Yk.out Zk.out Ak.out ?_); (case sg27 => rfl); (case so27 => rfl); (case sx27 => rfl); (case sy27 => rfl)))
  clear L26
  have qNKNW : V2.heap.size < V12.heap.size := NK.out.lt
  have qNDNW : V2.heap.size + 1 < V12.heap.size := ND.out.lt
  have qN26NW : V8.heap.size < V12.heap.size := N26.out.lt
  have qN28NW : V10.heap.size < V12.heap.size := N28.out.lt
  intro V13 hA hF hB
  have hy := ((Below.refl V12.heap.size V12).alloc (Nat.le_refl _) (.cells ZcK 37)).trans (hB _ (Nat.le_refl _))
  replace K := Lib.hid (K.out.trans (hy.mono K.out.size))
  replace NK := Lib.hid (NK.out.below hy NK.out.lt)
  replace ND := Lib.hid (ND.out.below hy ND.out.lt)
  replace N26 := Lib.hid (N26.out.below hy N26.out.lt)
  replace N28 := Lib.hid (N28.out.below hy N28.out.lt)
  replace KQ := Lib.hid (KQ.out.trans (hy.mono KQ.out.size))
  have NW := Lib.hid hA
  clear hA hF hB hy
  have L28 : (loadVar 25 ⟨V2.heap.size + 1, 0, none⟩).run Try.prog V13 = .ok (.agg DA) V13 := by have h := run_part_load (P := Try.prog) 25 0 DA.toList _ ND.out PD.out Try.underlying25 rfl ID.out; rwa [Array.toArray_toList] at h
  replace L28 := Lib.hid L28
  go_wp2_with (first | ((with_reducible refine wpList_load_want (op := ⟨some 106, .load 25 (.tmp 105), _, _, _, _⟩) ?wg28 25 (.tmp 105) ?wo28 ⟨V2.heap.size + 1, 0, none⟩ ?wx28 (.agg DA) L28.out ?_); (case wg28 => rfl); (case wo28 => rfl); (case wx28 => rfl)) | ((with_reducible refine wpList_part_store (op := ⟨none, .store 25 (.tmp 107) (.tmp 106), _, _, _, _⟩) ?pg1 25 (.tmp 107) (.tmp 106) ?po1 18 DA ?px1 ?py1 NW.out HS1.out ZDA.out ADA.out ?_); (case pg1 => rfl); (case po1 => rfl); (case px1 => rfl); (case py1 => rfl)))
  clear L28
  intro V14 hA hF hB
  rw [E1.out] at hA
  replace K := Lib.hid (K.out.trans (hB _ (by omega)))
  replace NK := Lib.hid (show Blk _ _ _ _ from (hF _ (by omega)).trans NK.out)
  replace ND := Lib.hid (show Blk _ _ _ _ from (hF _ (by omega)).trans ND.out)
  replace N26 := Lib.hid (show Blk _ _ _ _ from (hF _ (by omega)).trans N26.out)
  replace N28 := Lib.hid (show Blk _ _ _ _ from (hF _ (by omega)).trans N28.out)
  replace KQ := Lib.hid (KQ.out.trans (hB _ (by omega)))
  replace NW := Lib.hid hA
  clear hA hF hB
  rw [E2.out] at NW
  have L29 : (loadVar 37 ⟨V10.heap.size, 4, none⟩).run Try.prog V14 = .ok (.agg KO) V14 := by have h := run_part_load (P := Try.prog) 37 4 KO.toList _ N28.out PKO.out Try.underlying37 rfl IKO.out; rwa [Array.toArray_toList] at h
  replace L29 := Lib.hid L29
  have L30 : (loadVar 37 ⟨V12.heap.size, 0, none⟩).run Try.prog V14 = .ok (.agg KO) V14 := run_blk_load (P := Try.prog) 37 (V12.heap.size) _ NW.out Try.underlying37 rfl ZKO.out
  replace L30 := Lib.hid L30
  have L31 := (N28.out.cell 1).trans O1.out
  have L32 := (N26.out.cell 1).trans B1.out
  have L33 := (N28.out.cell 2).trans O2.out
  have L34 := (N26.out.cell 2).trans B2.out
  have L35 := (N28.out.cell 3).trans O3.out
  have L36 := (N26.out.cell 3).trans B3.out
  have L37 := (N28.out.cell 41).trans O5.out
  have L38 := (N26.out.cell 41).trans B5.out
  go_upto_region 18 with (first | ((with_reducible refine wpList_load_want (op := ⟨some 113, .load 37 (.tmp 112), _, _, _, _⟩) ?wg29 37 (.tmp 112) ?wo29 ⟨V10.heap.size, 4, none⟩ ?wx29 (.agg KO) L29.out ?_); (case wg29 => rfl); (case wo29 => rfl); (case wx29 => rfl)) | ((with_reducible refine wpList_load_want (op := ⟨some 114, .load 37 (.tmp 30), _, _, _, _⟩) ?wg30 37 (.tmp 30) ?wo30 ⟨V12.heap.size, 0, none⟩ ?wx30 (.agg KO) L30.out ?_); (case wg30 => rfl); (case wo30 => rfl); (case wx30 => rfl)))
  clear L29 L30 L31 L32 L33 L34 L35 L36 L37 L38
  have f2 := (N26.out.cell 2).trans B2.out
  have s1 : IntKind.i64.wrap ((sg : Int) + 16) = (sg : Int) + 16 := by rw [IntKind.wrap_i64]; omega
  have s2 : IntKind.i64.wrap ((sg : Int) + 6) = (sg : Int) + 6 := by rw [IntKind.wrap_i64]; omega
  go_upto_if 147 with fail
  go_cut [31] (fun x wx => x = .int .i64 ((sg + sAt (pr udp) : Nat) : Int) ∧ wx = V14)
  case first =>
    cases udp with
    | true =>
      go_wp2_with fail
      go_meet
      exact ⟨by simp [sAt, pr], rfl⟩
    | false =>
      go_wp2_with fail
      go_meet
      exact ⟨by simp [sAt, pr], rfl⟩
  case rest =>
    obtain ⟨rfl, hw⟩ := hcut
    have hw := hw.symm
    subst hw
    clear f2 s1 s2
    have RB1 := Lib.hid (RB.out.below KQ.out)
    have RO1 := Lib.hid (RO.out.below KQ.out)
    clear NK ND N28 NW KQ RB RO
    go_wp2_with fail
    refine (CF.out _ _ _ RB1.out RO1.out).mono ?_
    rintro e V15 ⟨xl, rfl, ol, hy⟩
    replace K := Lib.hid (K.out.trans (hy.mono K.out.size))
    replace N26 := Lib.hid (N26.out.below hy N26.out.lt)
    have RL := Lib.hid (Rd.own ol)
    obtain ⟨al, cl, rfl, -, -⟩ := rd_shape RL.out
    clear ol
    clear hy
    obtain ⟨L, hL⟩ : ∃ x, x = (difs B O).length := ⟨_, rfl⟩
    have HLL := Lib.hid hL
    rw [← hL] at RL ⊢
    clear hL
    have hL3 : L ≤ 3000 := by rw [HLL.out]; unfold difs; refine Nat.le_trans (dif_len _ _ _) ?_; rw [HLO.out, ← HNB.out]; omega
    go_wp2_with fail
    go_loop [33] (fun i => ∃ j : Nat, j ≤ L ∧ i = .int .i64 (j : Int)) (fun i => L - (intOf i).toNat)
    case atStart => exact ⟨0, Nat.zero_le _, rfl⟩
    case round =>
      obtain ⟨j, hj, rfl⟩ := hrel
      by_cases hjl : j < L
      · have hji : (j : Int) < (L : Int) := by omega
        have hjw : IntKind.i64.wrap ((j : Int) + 1) = ((j + 1 : Nat) : Int) := by rw [IntKind.wrap_i64]; omega
        obtain ⟨bl, ol, rfl, ql⟩ := RL.out.cells (by omega)
        have cl := ql j hjl
        have hp := HGET.out ((difs B O).getD j 0) (by
          rw [List.getD_eq_getElem?_getD, List.getElem?_eq_getElem (by rw [← HLL.out]; exact hjl)]
          exact List.getElem_mem _)
        generalize (difs B O).getD j 0 = p at *
        rw [← HNB.out] at hp
        clear ql
        have f1 := (N26.out.cell 1).trans B1.out
        have f2 := (N26.out.cell 2).trans B2.out
        have hp2 := hp.2
        have hp1 := hp.1
        clear hp
        have wr10 : IntKind.i64.wrap ((tl : Int) + 10) = (tl : Int) + 10 := by rw [IntKind.wrap_i64]; omega
        have wr11 : IntKind.i64.wrap ((tl : Int) + 11) = (tl : Int) + 11 := by rw [IntKind.wrap_i64]; omega
        have wr16 : IntKind.i64.wrap ((tl : Int) + 16) = (tl : Int) + 16 := by rw [IntKind.wrap_i64]; omega
        have wr20 : IntKind.i64.wrap ((tl : Int) + 20) = (tl : Int) + 20 := by rw [IntKind.wrap_i64]; omega
        have wr24 : IntKind.i64.wrap ((tl : Int) + 24) = (tl : Int) + 24 := by rw [IntKind.wrap_i64]; omega
        have wr40 : IntKind.i64.wrap ((tl : Int) + 40) = (tl : Int) + 40 := by rw [IntKind.wrap_i64]; omega
        have ws2 : IntKind.i64.wrap ((sg : Int) + 2) = (sg : Int) + 2 := by rw [IntKind.wrap_i64]; omega
        have ws3 : IntKind.i64.wrap ((sg : Int) + 3) = (sg : Int) + 3 := by rw [IntKind.wrap_i64]; omega
        have hsa : sAt (pr udp) = 16 ∨ sAt (pr udp) = 6 := by cases udp <;> simp [sAt, pr]
        generalize sAt (pr udp) = sa at *
        have wsa : IntKind.i64.wrap ((sg : Int) + (sa : Int) + 1) = (sg : Int) + (sa : Int) + 1 := by rw [IntKind.wrap_i64]; omega
        obtain ⟨c10, hc10⟩ : ∃ b, b = decide (p = tl + 10) := ⟨_, rfl⟩
        obtain ⟨ic10, jc10, kc10⟩ := cmp_eq p (tl + 10) ((tl : Int) + 10) c10 hc10.symm (by simp)
        have Hc10 := Lib.hid hc10
        clear hc10
        obtain ⟨c11, hc11⟩ : ∃ b, b = decide (p = tl + 11) := ⟨_, rfl⟩
        obtain ⟨ic11, jc11, kc11⟩ := cmp_eq p (tl + 11) ((tl : Int) + 11) c11 hc11.symm (by simp)
        have Hc11 := Lib.hid hc11
        clear hc11
        obtain ⟨x2, hx2⟩ : ∃ b, b = decide (p = sg + 2) := ⟨_, rfl⟩
        obtain ⟨ix2, jx2, kx2⟩ := cmp_eq p (sg + 2) ((sg : Int) + 2) x2 hx2.symm (by simp)
        have Hx2 := Lib.hid hx2
        clear hx2
        obtain ⟨x3, hx3⟩ : ∃ b, b = decide (p = sg + 3) := ⟨_, rfl⟩
        obtain ⟨ix3, jx3, kx3⟩ := cmp_eq p (sg + 3) ((sg : Int) + 3) x3 hx3.symm (by simp)
        have Hx3 := Lib.hid hx3
        clear hx3
        obtain ⟨x4, hx4⟩ : ∃ b, b = decide (p = sg + sa) := ⟨_, rfl⟩
        obtain ⟨ix4, jx4, kx4⟩ := cmp_eq p (sg + sa) ((sg : Int) + (sa : Int)) x4 hx4.symm (by simp)
        have Hx4 := Lib.hid hx4
        clear hx4
        obtain ⟨x5, hx5⟩ : ∃ b, b = decide (p = sg + sa + 1) := ⟨_, rfl⟩
        obtain ⟨ix5, jx5, kx5⟩ := cmp_eq p (sg + sa + 1) ((sg : Int) + (sa : Int) + 1) x5 hx5.symm (by simp)
        have Hx5 := Lib.hid hx5
        clear hx5
        have HF : Hid ((decide (v = false ∧ tl + 16 ≤ p ∧ p < tl + 20 ∨ v = true ∧ tl + 24 ≤ p ∧ p < tl + 40) || (!v && (c10 || c11)) || x2 || x3 || x4 || x5) = true) := by
          show _ = true
          rw [Hc10.out, Hc11.out, Hx2.out, Hx3.out, Hx4.out, Hx5.out]
          rcases hp2 with ⟨rfl, h | h | ⟨h, h'⟩⟩ | ⟨rfl, h, h'⟩ | h | h | h | h <;> simp [h] <;> omega
        clear hp2 Hc10 Hc11 Hx2 Hx3 Hx4 Hx5
        go_upto_region 26 with fail
        go_cut [35] (fun x wx => x = .bool (decide (v = false ∧ tl + 16 ≤ p ∧ p < tl + 20 ∨ v = true ∧ tl + 24 ≤ p ∧ p < tl + 40)) ∧ wx = V15)
        case first =>
          clear HF
          cases v <;> (go_wp2_with fail; all_goals go_meet; all_goals exact ⟨by first | (congr 1; rw [Bool.eq_iff_iff]; simp; omega) | (congr 1; rw [Bool.eq_iff_iff]; simp), rfl⟩)
        case rest =>
          obtain ⟨rfl, hw⟩ := hcut
          have hw := hw.symm
          subst hw
          obtain ⟨ad, had⟩ : ∃ ad, ad = decide (v = false ∧ tl + 16 ≤ p ∧ p < tl + 20 ∨ v = true ∧ tl + 24 ≤ p ∧ p < tl + 40) := ⟨_, rfl⟩
          rw [← had] at HF ⊢
          clear had
          go_upto_region 27 with fail
          go_cut [36] (fun y wx => y = .bool (!v && (c10 || c11)) ∧ wx = V15)
          case first =>
            cases v <;> cases c10 <;> cases c11 <;> (go_wp2_with fail; go_meet; exact ⟨by simp, rfl⟩)
          case rest =>
            obtain ⟨rfl, hw⟩ := hcut
            have hw := hw.symm
            subst hw
            obtain ⟨hd, hhd⟩ : ∃ hd, hd = (!v && (c10 || c11)) := ⟨_, rfl⟩
            rw [← hhd] at HF ⊢
            clear hhd ic10 jc10 kc10 ic11 jc11 kc11
            cases ad with
            | true => (clear HF; as_aux_lemma => (go_wp2; go_round; (case rel => exact ⟨j + 1, hjl, by go_num⟩); (case measure => exact meas_lt hjl)))
            | false =>
              cases hd with
              | true => (clear HF; as_aux_lemma => (go_wp2; go_round; (case rel => exact ⟨j + 1, hjl, by go_num⟩); (case measure => exact meas_lt hjl)))
              | false =>
                cases x2 with
                | true => (clear HF; as_aux_lemma => (go_wp2; go_round; (case rel => exact ⟨j + 1, hjl, by go_num⟩); (case measure => exact meas_lt hjl)))
                | false =>
                  cases x3 with
                  | true => (clear HF; as_aux_lemma => (go_wp2; go_round; (case rel => exact ⟨j + 1, hjl, by go_num⟩); (case measure => exact meas_lt hjl)))
                  | false =>
                    cases x4 with
                    | true => (clear HF; as_aux_lemma => (go_wp2; go_round; (case rel => exact ⟨j + 1, hjl, by go_num⟩); (case measure => exact meas_lt hjl)))
                    | false =>
                      cases x5 with
                      | true => (clear HF; as_aux_lemma => (go_wp2; go_round; (case rel => exact ⟨j + 1, hjl, by go_num⟩); (case measure => exact meas_lt hjl)))
                      | false => exact absurd HF.out (by simp)
      · obtain rfl : L = j := by omega
        go_wp2_with fail
        refine (awake_any _).mono ?_
        rintro e w2 ⟨rfl, hy⟩
        replace K := Lib.hid (K.out.trans (hy.mono K.out.size))
        go_wp2
        go_ret
        exact ⟨rfl, K.out⟩
theorem goes_walk (n : Int) (v udp : Bool) (f : Nat) (a : Option Addr) (la ca : Nat) (zs : List Nat) (tag bare port : Bool) (pad m : Int) (w : World) (hr : Rd w (.slice a la ca) (nus .u8 zs)) (hL : zs.length = la) (hna : a = none → ca = 0) (hb : ∀ c ∈ zs, c < 256) (hf : f < 256) :
    Calls Try.prog 4 #[.int .i64 n, .bool v, .bool udp, .int .u8 (f : Int), .slice a la ca, .bool tag, .bool bare, .int .i64 pad, .int .i64 m, .bool port] w fun e w' => e = .returned (.bool true) ∧ Below w.heap.size w w' := by
  cases port with
  | true => exact goes_t n v udp f a la ca zs tag bare pad m w hr hL hna hb hf
  | false => exact goes_f n v udp f a la ca zs tag bare pad m w hr hL hna hb hf
end Go.Proofs.Ythionipmohbnhaa
