/- Texts that the walks of this seat lean on, put together: each has its own remark below. -/
import Derived.Test.YtbhiknojjmdbiaaM21

/- The walk of SegGoes, of TCP. -/
namespace Go.Proofs.Ytbhiknojjmdbiaa
open Go.RowKit

set_option maxRecDepth 100000 in
set_option maxHeartbeats 8000000 in
theorem goes_t (n : Int) (v : Bool) (br : Bool) (a : Option Addr) (la ca : Nat) (zs : List Nat) (m at0 : Int) (w : World) (hr : Rd w (.slice a la ca) (nus .u8 zs)) (hL : zs.length = la) (hna : a = none → ca = 0) (hb : ∀ c ∈ zs, c < 256) :
    Calls Try.prog 4 #[.int .i64 n, .bool v, .bool false, .bool br, .slice a la ca, .int .i64 m, .int .i64 at0] w fun e w' => e = .returned (.bool true) ∧ Below w.heap.size w w' := by
  have K := Lib.hid (Below.refl w.heap.size w)
  have HR := Lib.hid hr
  by_cases h300 : 300 < la
  · have hd1 : decide ((300 : Int) < (la : Int)) = true := decide_eq_true (by omega)
    clear hr HR
    go_enter Try.func4, Try.ntmps4
    go_wp2_with fail
    refine (awake_any _).mono ?_
    rintro e V1 ⟨rfl, hy⟩
    replace K := Lib.hid (K.out.trans (hy.mono K.out.size))
    clear hy
    go_wp2
    go_ret
    exact ⟨rfl, K.out⟩
  obtain ⟨u, hu⟩ : ∃ u : Nat, u = (n % 1073741824).toNat := ⟨_, rfl⟩
  have hun : n % 1073741824 = (u : Int) := by omega
  have hul : u < 1073741824 := by omega
  obtain ⟨sp, hsp⟩ : ∃ x, x = 1000 + u % 50000 := ⟨_, rfl⟩
  have hspl : sp < 65536 := by omega
  obtain ⟨s, hs⟩ : ∃ s, s = kS u ++ List.replicate 12 0 := ⟨_, rfl⟩
  obtain ⟨d, hd⟩ : ∃ d, d = kD ++ List.replicate 12 0 := ⟨_, rfl⟩
  have ls : s.length = 16 := by rw [hs]; rfl
  have ld : d.length = 16 := by rw [hd]; rfl
  have bs : ∀ c ∈ s, c < 256 := by rw [hs]; exact kSz_lt u
  have bd : ∀ c ∈ d, c < 256 := by rw [hd]; exact kDz_lt
  have vs : vldA v s = true := by rw [hs]; exact kSz_v v u
  have vd : vldA v d = true := by rw [hd]; exact kDz_v v
  obtain ⟨S, hS⟩ : ∃ S, S = cellsA v s := ⟨_, rfl⟩
  obtain ⟨D, hD⟩ : ∃ D, D = cellsA v d := ⟨_, rfl⟩
  have zS : S.size = 17 := by rw [hS, cellsA_size, ls]
  have zD : D.size = 17 := by rw [hD, cellsA_size, ld]
  have aS : S.all (·.oneCell') = true := by rw [hS]; exact cellsA_all _ _
  have aD : D.all (·.oneCell') = true := by rw [hD]; exact cellsA_all _ _
  obtain ⟨kc, hkc⟩ : ∃ kc, kc = kcells 6 S D sp 80 := ⟨_, rfl⟩
  obtain ⟨SG, hSG⟩ : ∃ x, x = segB 6 v s d sp 80 2 zs br := ⟨_, rfl⟩
  obtain ⟨nn, hnn⟩ : ∃ x, x = SG.length := ⟨_, rfl⟩
  have lSG : nn = 20 + la := by rw [hnn, hSG, segB_len 6 (by simp), hL]; rfl
  have bSG : ∀ c ∈ SG, c < 256 := by rw [hSG]; exact segB_lt 6 v s d sp 80 2 zs br (by omega) hb
  have fSG : fs 6 SG = 0 := by rw [hSG]; exact segB_fs 6 (by simp) v s d sp 80 2 zs br (by omega)
  have gSG : gd 6 SG v s v d = true := by rw [hSG]; exact built_good 6 (by simp) v s d sp 80 2 zs br (by omega)
  have CK := Lib.hid (show ∀ W, Calls Try.prog 17 #[.int .i64 n, .bool v, .bool false] W fun e w' => e = .returned (.agg kc) ∧ Below W.heap.size W w' from fun W => by rw [hkc, hS, hD, hs, hd]; exact key_tcp n v u sp W hun hul hsp)
  have CO := Lib.hid (show ∀ W, Rd W (.slice a la ca) (nus .u8 zs) → Calls Try.prog 19 #[.agg kc, .slice a la ca, .bool br] W fun e w' => ∃ b off c, e = .returned (.slice (some ⟨b, off, none⟩) nn c) ∧ Rd w' (.slice (some ⟨b, off, none⟩) nn c) (nus .u8 SG) ∧ Below W.heap.size W w' from fun W h => by
    rw [hkc, hS, hD, hnn, hSG]; exact of_rd 6 (by simp) v s d sp 80 a la ca zs br W h hL hna hb (by omega) ls ld bs bd vs vd hspl (by omega))
  have kp1 := Lib.hid (show (kc.toList.drop 1).take S.toList.length = S.toList by rw [hkc]; exact kcells_src _ _ _ _ _)
  have kp2 := Lib.hid (show (kc.toList.drop 18).take D.toList.length = D.toList by rw [hkc]; exact kcells_dst _ _ _ _ _ zS)
  have kg := by have q := kget v s d ls ld 6 sp 80; rw [← hS, ← hD, ← hkc] at q; exact q
  have kg0 := Lib.hid kg.1
  have kg3 := Lib.hid kg.2.2.2.1
  have kg4 := Lib.hid kg.2.2.2.2
  have IS := Lib.hid (i24.trans (congrArg some (show (17 : Nat) = S.toList.length by simp [zS])))
  have ID := Lib.hid (i24.trans (congrArg some (show (17 : Nat) = D.toList.length by simp [zD])))
  have zk : kc.size = 37 := by rw [hkc]; exact kcells_size _ _ _ _ _ zS zD
  have Yk : Hid (kc.size = Array.size (#[Value.int .u8 0, .bool false, .int .u8 0, .int .u8 0, .int .u8 0, .int .u8 0, .int .u8 0, .int .u8 0, .int .u8 0, .int .u8 0, .int .u8 0, .int .u8 0, .int .u8 0, .int .u8 0, .int .u8 0, .int .u8 0, .int .u8 0, .int .u8 0, .bool false, .int .u8 0, .int .u8 0, .int .u8 0, .int .u8 0, .int .u8 0, .int .u8 0, .int .u8 0, .int .u8 0, .int .u8 0, .int .u8 0, .int .u8 0, .int .u8 0, .int .u8 0, .int .u8 0, .int .u8 0, .int .u8 0, .int .u16 0, .int .u16 0] : Array Value)) := zk
  have Zk := Lib.hid (i43.trans (congrArg some zk.symm))
  have Ak := Lib.hid (show kc.all (·.oneCell') = true by rw [hkc]; exact kcells_all _ _ _ _ _ aS aD)
  have YS : Hid (S.size = Array.size (#[Value.bool false, .int .u8 0, .int .u8 0, .int .u8 0, .int .u8 0, .int .u8 0, .int .u8 0, .int .u8 0, .int .u8 0, .int .u8 0, .int .u8 0, .int .u8 0, .int .u8 0, .int .u8 0, .int .u8 0, .int .u8 0, .int .u8 0] : Array Value)) := zS
  have ZSs := Lib.hid (i24.trans (congrArg some zS.symm))
  have AS := Lib.hid aS
  obtain ⟨q, hq⟩ : ∃ q : Nat, q = (m % 200).toNat := ⟨_, rfl⟩
  have hqm : m % 200 = (q : Int) := by omega
  have hql : q < 200 := by omega
  obtain ⟨pt, hpt⟩ : ∃ pt : Nat, pt = 8000 + (m % 1000).toNat := ⟨_, rfl⟩
  have hpm : m % 1000 = (pt : Int) - 8000 := by omega
  have hptl : pt < 65536 := by omega
  obtain ⟨t, ht⟩ : ∃ t, t = dB q ++ List.replicate 12 0 := ⟨_, rfl⟩
  have lt : t.length = 16 := by rw [ht]; rfl
  have bt : ∀ c ∈ t, c < 256 := by rw [ht]; exact dBz_lt q hql
  obtain ⟨T, hT⟩ : ∃ T, T = cellsA v t := ⟨_, rfl⟩
  have zT : T.size = 17 := by rw [hT, cellsA_size, lt]
  have aT : T.all (·.oneCell') = true := by rw [hT]; exact cellsA_all _ _
  obtain ⟨dc, hdc⟩ : ∃ dc, dc = dcells T pt := ⟨_, rfl⟩
  have CP := Lib.hid (show ∀ W, Calls Try.prog 18 #[.int .i64 m, .bool v] W fun e w' => e = .returned (.agg dc) ∧ Below W.heap.size W w' from fun W => by rw [hdc, hT, ht]; exact dip_at m v pt q W hpm hqm (by omega) (by omega) hql)
  have dp0 := Lib.hid (show (dc.toList.drop 0).take T.toList.length = T.toList by rw [hdc]; simp [dcells])
  have dg1 := Lib.hid (show dc[17]? = some (.int .u16 (pt : Int)) by
    obtain ⟨x0, x1, x2, x3, x4, x5, x6, x7, x8, x9, x10, x11, x12, x13, x14, x15, x16, hx⟩ := arr17 T zT
    rw [hdc, hx]; rfl)
  have IT := Lib.hid (i24.trans (congrArg some (show (17 : Nat) = T.toList.length by simp [zT])))
  have zd : dc.size = 18 := by rw [hdc]; exact dcells_size _ _ zT
  have Yd : Hid (dc.size = Array.size (#[Value.bool false, .int .u8 0, .int .u8 0, .int .u8 0, .int .u8 0, .int .u8 0, .int .u8 0, .int .u8 0, .int .u8 0, .int .u8 0, .int .u8 0, .int .u8 0, .int .u8 0, .int .u8 0, .int .u8 0, .int .u8 0, .int .u8 0, .int .u16 0] : Array Value)) := zd
  have Zd := Lib.hid (i45.trans (congrArg some zd.symm))
  have Ad := Lib.hid (show dc.all (·.oneCell') = true by rw [hdc]; exact dcells_all _ _ aT)
  have hlm : la ≤ ca ∧ ca ≤ maxLen := by obtain ⟨a', c', e, h1, h2⟩ := rd_shape hr; cases e; omega
  have P1 := ported 6 SG pt v d t bSG fSG hptl ld lt bd
  obtain ⟨C, hC⟩ : ∃ x, x = prt 6 SG pt v d t := ⟨_, rfl⟩
  have lC : C.length = nn := by rw [hC, P1.len, hnn]
  have bC : ∀ c ∈ C, c < 256 := by rw [hC]; exact P1.lt
  have fC : fs 6 C = 0 := by rw [hC]; exact P1.fs
  have gC : ∀ i, i ≠ 2 → i ≠ 3 → i ≠ 16 → i ≠ 17 → C.getD i 0 = SG.getD i 0 := by rw [hC]; exact P1.get
  have hsum : tsum 6 SG v s d % 65535 = 0 := by rw [hSG]; exact built_sum 6 (by simp) v s d sp 80 2 zs br (by simp)
  have hwo : wo 6 SG = false := by rw [hSG, built_wo 6 (by simp)]; simp
  have g2 : gd 6 C v s v t = true := gd_yes 6 C v s t (by omega) fC (.inr (by rw [hC, P1.sum hwo s ls]; exact hsum))
  obtain ⟨ri, hri⟩ : ∃ x : Nat, x = (at0 % 2).toNat := ⟨_, rfl⟩
  have hre : at0 % 2 = (ri : Int) := by omega
  have hrl : ri < 2 := by omega
  have lO' : (turn SG ri 2).length = SG.length := turn_len SG ri 2
  have bO' := turn_lt SG ri 2 bSG (by omega)
  have gO : ∀ i, 2 ≤ i → (turn SG ri 2).getD i 0 = SG.getD i 0 := fun i hi => by unfold turn; simp only [List.getD_eq_getElem?_getD]; rw [List.getElem?_set_ne (by omega)]
  have nO : tsum 6 (turn SG ri 2) v s d % 65535 ≠ 0 := turn_sum 6 SG v s d ri 2 bSG (by omega) (by omega) hsum
  have fO : fs 6 (turn SG ri 2) = 0 := by
    rcases fs_yes 6 SG fSG with ⟨-, q1, q2, q3⟩ | ⟨e, -⟩
    · have e : tz (turn SG ri 2) = tz SG := by unfold tz; rw [gO 12 (by omega)]
      exact fs_six _ (by omega) (by omega) (by omega)
    · exact absurd e (by omega)
  have wO : wo 6 (turn SG ri 2) = false := decide_eq_false (fun h => absurd h.1 (by omega))
  have n3 : gd 6 (turn SG ri 2) v s v d = false := gd_no 6 _ v s d wO nO
  have P2 := ported 6 (turn SG ri 2) pt v d t bO' fO hptl ld lt bd
  obtain ⟨O, hO⟩ : ∃ x, x = turn SG ri 2 := ⟨_, rfl⟩
  obtain ⟨E, hE⟩ : ∃ x, x = prt 6 O pt v d t := ⟨_, rfl⟩
  have lO : O.length = nn := by rw [hO, lO', hnn]
  have bO : ∀ c ∈ O, c < 256 := by rw [hO]; exact bO'
  have fO2 : fs 6 O = 0 := by rw [hO]; exact fO
  have lE : E.length = nn := by rw [hE, hO, P2.len, lO', hnn]
  have bE : ∀ c ∈ E, c < 256 := by rw [hE, hO]; exact P2.lt
  have n4 : gd 6 E v s v t = false := gd_no 6 _ v s t (by rw [hE, hO, P2.wo, wO]) (by rw [hE, hO, P2.sum wO s ls]; exact nO)
  rw [← hO] at n3
  clear P2
  clear P1
  have CD := Lib.hid (fun W z (h : Rd W z (nus .u8 SG)) => some_rd (W := W) lC (by omega) (show Calls Try.prog 13 #[.int .u8 6, z, .int .u16 (pt : Int), .agg D, .agg T] W fun e w' => ∃ x, e = .returned x ∧ Rd w' x (nus .u8 C) ∧ Below W.heap.size W w' by rw [hD, hT, hC]; exact port_yes 6 z SG pt v d t W h bSG fSG (by omega) hptl ld lt bd bt))
  have CG1 := Lib.hid (fun W z (h : Rd W z (nus .u8 SG)) => good_any 6 z SG v s v d W h bSG (by omega) (by omega) ls ld bs bd)
  rw [gSG] at CG1
  have CG2 := Lib.hid (fun W z (h : Rd W z (nus .u8 C)) => good_any 6 z C v s v t W h bC (by omega) (by omega) ls lt bs bt)
  rw [g2] at CG2
  unfold adr at CG1 CG2
  rw [← hS, ← hD] at CG1
  rw [← hS, ← hT] at CG2
  have CE := Lib.hid (fun W z (h : Rd W z (nus .u8 O)) => some_rd (W := W) lE (by omega) (show Calls Try.prog 13 #[.int .u8 6, z, .int .u16 (pt : Int), .agg D, .agg T] W fun e w' => ∃ x, e = .returned x ∧ Rd w' x (nus .u8 E) ∧ Below W.heap.size W w' by rw [hD, hT, hE]; exact port_yes 6 z O pt v d t W h bO fO2 (by omega) hptl ld lt bd bt))
  have CG3 := Lib.hid (fun W z (h : Rd W z (nus .u8 O)) => good_any 6 z O v s v d W h bO (by omega) (by omega) ls ld bs bd)
  rw [n3] at CG3
  have CG4 := Lib.hid (fun W z (h : Rd W z (nus .u8 E)) => good_any 6 z E v s v t W h bE (by omega) (by omega) ls lt bs bt)
  rw [n4] at CG4
  unfold adr at CG3 CG4
  rw [← hS, ← hD] at CG3
  rw [← hS, ← hT] at CG4
  have CR := Lib.hid (fun W => round_any at0 2 W (by omega) (by omega))
  rw [hre] at CR
  have ty := getD_lt SG bSG ri
  have xv := Lib.hid (xor_four (SG.getD ri 0) ty)
  have eC2 : Hid (SG.set ri (SG.getD ri 0 ^^^ 2 ^ 2) = O) := by show _ = _; rw [hO]; rfl
  obtain ⟨y2, hy2⟩ : ∃ y, y = SG.getD ri 0 := ⟨_, rfl⟩
  rw [← hy2] at xv eC2 ty
  have HY2 := Lib.hid hy2
  obtain ⟨x2, hx2⟩ : ∃ y, y = y2 ^^^ 2 ^ 2 := ⟨_, rfl⟩
  rw [← hx2] at xv eC2
  have HLS := Lib.hid hnn
  have HB7 := Lib.hid (show ∀ i, SG.getD i 0 = C.getD i 0 ∨ i = 2 ∨ i = 3 ∨ i = 16 ∨ i = 17 from fun i => by
    by_cases q1 : i = 2
    · exact .inr (.inl q1)
    by_cases q2 : i = 3
    · exact .inr (.inr (.inl q2))
    by_cases q3 : i = 16
    · exact .inr (.inr (.inr (.inl q3)))
    by_cases q4 : i = 17
    · exact .inr (.inr (.inr (.inr q4)))
    exact .inl (gC i q1 q2 q3 q4).symm)
  have HXS := Lib.hid (getD_lt SG bSG)
  have HXC := Lib.hid (getD_lt C bC)
  have hnn8 : 8 ≤ nn := by omega
  have hnl : nn ≤ 320 := by omega
  have hd1 : decide ((300 : Int) < (la : Int)) = false := decide_eq_false (by omega)
  have hd2 : decide ((nn : Int) < 8) = false := decide_eq_false (by omega)
  clear hr hL hna hb hu hun hul hsp hspl hs hd ls ld bs bd vs vd hS hD zS zD aS aD hkc hSG lSG bSG fSG gSG kg zk hnn hq hqm hql hpt hpm hptl ht lt bt hT zT aT hdc zd hwo lC bC fC gC g2 hC hsum hri hre lO' bO' gO nO fO wO n3 hO hE lO bO fO2 lE bE n4 hy2 hx2
  unfold maxLen at hlm
  go_enter Try.func4, Try.ntmps4
  go_wp2_with fail
  refine (CK.out _).mono ?_
  rintro e V1 ⟨rfl, hy⟩
  replace K := Lib.hid (K.out.trans (hy.mono K.out.size))
  clear hy
  go_wp2_with fail
  refine (CP.out _).mono ?_
  rintro e V2 ⟨rfl, hy⟩
  replace K := Lib.hid (K.out.trans (hy.mono K.out.size))
  clear hy
  have hKw := K.out.size
  have hal := (Below.refl V2.heap.size V2).alloc (Nat.le_refl _) (.cells #[Value.int .u8 0, .bool false, .int .u8 0, .int .u8 0, .int .u8 0, .int .u8 0, .int .u8 0, .int .u8 0, .int .u8 0, .int .u8 0, .int .u8 0, .int .u8 0, .int .u8 0, .int .u8 0, .int .u8 0, .int .u8 0, .int .u8 0, .int .u8 0, .bool false, .int .u8 0, .int .u8 0, .int .u8 0, .int .u8 0, .int .u8 0, .int .u8 0, .int .u8 0, .int .u8 0, .int .u8 0, .int .u8 0, .int .u8 0, .int .u8 0, .int .u8 0, .int .u8 0, .int .u8 0, .int .u8 0, .int .u16 0, .int .u16 0] 43)
  replace K := Lib.hid (K.out.trans (hal.mono K.out.size))
  have NK := Lib.hid (Blk.new V2 43 #[Value.int .u8 0, .bool false, .int .u8 0, .int .u8 0, .int .u8 0, .int .u8 0, .int .u8 0, .int .u8 0, .int .u8 0, .int .u8 0, .int .u8 0, .int .u8 0, .int .u8 0, .int .u8 0, .int .u8 0, .int .u8 0, .int .u8 0, .int .u8 0, .bool false, .int .u8 0, .int .u8 0, .int .u8 0, .int .u8 0, .int .u8 0, .int .u8 0, .int .u8 0, .int .u8 0, .int .u8 0, .int .u8 0, .int .u8 0, .int .u8 0, .int .u8 0, .int .u8 0, .int .u8 0, .int .u8 0, .int .u16 0, .int .u16 0])
  clear hal
  have hal := (Below.refl (V2.alloc (.cells #[Value.int .u8 0, .bool false, .int .u8 0, .int .u8 0, .int .u8 0, .int .u8 0, .int .u8 0, .int .u8 0, .int .u8 0, .int .u8 0, .int .u8 0, .int .u8 0, .int .u8 0, .int .u8 0, .int .u8 0, .int .u8 0, .int .u8 0, .int .u8 0, .bool false, .int .u8 0, .int .u8 0, .int .u8 0, .int .u8 0, .int .u8 0, .int .u8 0, .int .u8 0, .int .u8 0, .int .u8 0, .int .u8 0, .int .u8 0, .int .u8 0, .int .u8 0, .int .u8 0, .int .u8 0, .int .u8 0, .int .u16 0, .int .u16 0] 43)).heap.size (V2.alloc (.cells #[Value.int .u8 0, .bool false, .int .u8 0, .int .u8 0, .int .u8 0, .int .u8 0, .int .u8 0, .int .u8 0, .int .u8 0, .int .u8 0, .int .u8 0, .int .u8 0, .int .u8 0, .int .u8 0, .int .u8 0, .int .u8 0, .int .u8 0, .int .u8 0, .bool false, .int .u8 0, .int .u8 0, .int .u8 0, .int .u8 0, .int .u8 0, .int .u8 0, .int .u8 0, .int .u8 0, .int .u8 0, .int .u8 0, .int .u8 0, .int .u8 0, .int .u8 0, .int .u8 0, .int .u8 0, .int .u8 0, .int .u16 0, .int .u16 0] 43))).alloc (Nat.le_refl _) (.cells #[Value.bool false, .int .u8 0, .int .u8 0, .int .u8 0, .int .u8 0, .int .u8 0, .int .u8 0, .int .u8 0, .int .u8 0, .int .u8 0, .int .u8 0, .int .u8 0, .int .u8 0, .int .u8 0, .int .u8 0, .int .u8 0, .int .u8 0, .int .u16 0] 46)
  replace K := Lib.hid (K.out.trans (hal.mono K.out.size))
  replace NK := Lib.hid (NK.out.below hal NK.out.lt)
  have NDq := Blk.new (V2.alloc (.cells #[Value.int .u8 0, .bool false, .int .u8 0, .int .u8 0, .int .u8 0, .int .u8 0, .int .u8 0, .int .u8 0, .int .u8 0, .int .u8 0, .int .u8 0, .int .u8 0, .int .u8 0, .int .u8 0, .int .u8 0, .int .u8 0, .int .u8 0, .int .u8 0, .bool false, .int .u8 0, .int .u8 0, .int .u8 0, .int .u8 0, .int .u8 0, .int .u8 0, .int .u8 0, .int .u8 0, .int .u8 0, .int .u8 0, .int .u8 0, .int .u8 0, .int .u8 0, .int .u8 0, .int .u8 0, .int .u8 0, .int .u16 0, .int .u16 0] 43)) 46 #[Value.bool false, .int .u8 0, .int .u8 0, .int .u8 0, .int .u8 0, .int .u8 0, .int .u8 0, .int .u8 0, .int .u8 0, .int .u8 0, .int .u8 0, .int .u8 0, .int .u8 0, .int .u8 0, .int .u8 0, .int .u8 0, .int .u8 0, .int .u16 0]
  simp only [World.size_alloc] at NDq
  have ND := Lib.hid NDq
  clear NDq
  clear hal
  go_wp2_with (((with_reducible refine wpList_blk_store (op := ⟨none, .store 43 (.tmp 15) (.tmp 30), _, _, _, _⟩) ?sg1 43 (.tmp 15) (.tmp 30) ?so1 (V2.heap.size) kc ?sx1 ?sy1 NK.out Yk.out Zk.out Ak.out ?_); (case sg1 => rfl); (case so1 => rfl); (case sx1 => rfl); (case sy1 => rfl)))
  intro V3 hA hF hB
  replace K := Lib.hid (K.out.trans (hB _ (by omega)))
  replace ND := Lib.hid (show Blk _ _ _ _ from (hF _ (by omega)).trans ND.out)
  replace NK := Lib.hid hA
  clear hA hF hB
  go_wp2_with (((with_reducible refine wpList_blk_store (op := ⟨none, .store 46 (.tmp 16) (.tmp 33), _, _, _, _⟩) ?sg2 46 (.tmp 16) (.tmp 33) ?so2 (V2.heap.size + 1) dc ?sx2 ?sy2 ND.out Yd.out Zd.out Ad.out ?_); (case sg2 => rfl); (case so2 => rfl); (case sx2 => rfl); (case sy2 => rfl)))
  intro V4 hA hF hB
  replace K := Lib.hid (K.out.trans (hB _ (by omega)))
  replace NK := Lib.hid (show Blk _ _ _ _ from (hF _ (by omega)).trans NK.out)
  replace ND := Lib.hid hA
  clear hA hF hB
  have L3 : (loadVar 43 ⟨V2.heap.size, 0, none⟩).run Try.prog V4 = .ok (.agg kc) V4 := run_blk_load (P := Try.prog) 43 (V2.heap.size) _ NK.out Try.underlying43 rfl Zk.out
  replace L3 := Lib.hid L3
  go_wp2_with (((with_reducible refine wpList_load_want (op := ⟨some 34, .load 43 (.tmp 15), _, _, _, _⟩) ?wg3 43 (.tmp 15) ?wo3 ⟨V2.heap.size, 0, none⟩ ?wx3 (.agg kc) L3.out ?_); (case wg3 => rfl); (case wo3 => rfl); (case wx3 => rfl)))
  clear L3
  refine (CO.out _ (HR.out.below K.out)).mono ?_
  rintro e V5 ⟨gb, ob, cb, rfl, rb, hy⟩
  replace K := Lib.hid (K.out.trans (hy.mono K.out.size))
  replace NK := Lib.hid (NK.out.below hy NK.out.lt)
  replace ND := Lib.hid (ND.out.below hy ND.out.lt)
  have R := Lib.hid (rb)
  clear rb
  clear hy
  have L4 := (NK.out.cell 0).trans kg0.out
  have L5 := (ND.out.cell 17).trans dg1.out
  have L6 : (loadVar 26 ⟨V2.heap.size, 18, none⟩).run Try.prog V5 = .ok (.agg D) V5 := by have h := run_part_load (P := Try.prog) 26 18 D.toList _ NK.out kp2.out Try.underlying26 rfl ID.out; rwa [Array.toArray_toList] at h
  replace L6 := Lib.hid L6
  have L7 : (loadVar 26 ⟨V2.heap.size + 1, 0, none⟩).run Try.prog V5 = .ok (.agg T) V5 := by have h := run_part_load (P := Try.prog) 26 0 T.toList _ ND.out dp0.out Try.underlying26 rfl IT.out; rwa [Array.toArray_toList] at h
  replace L7 := Lib.hid L7
  go_wp2_with (first | ((with_reducible refine wpList_load_want (op := ⟨some 44, .load 26 (.tmp 43), _, _, _, _⟩) ?wg6 26 (.tmp 43) ?wo6 ⟨V2.heap.size, 18, none⟩ ?wx6 (.agg D) L6.out ?_); (case wg6 => rfl); (case wo6 => rfl); (case wx6 => rfl)) | ((with_reducible refine wpList_load_want (op := ⟨some 46, .load 26 (.tmp 45), _, _, _, _⟩) ?wg7 26 (.tmp 45) ?wo7 ⟨V2.heap.size + 1, 0, none⟩ ?wx7 (.agg T) L7.out ?_); (case wg7 => rfl); (case wo7 => rfl); (case wx7 => rfl)))
  clear L4 L5 L6 L7
  refine (CD.out _ _ R.out).mono ?_
  rintro e V6 ⟨gc, oc, cc, rfl, rc, hy⟩
  replace K := Lib.hid (K.out.trans (hy.mono K.out.size))
  replace NK := Lib.hid (NK.out.below hy NK.out.lt)
  replace ND := Lib.hid (ND.out.below hy ND.out.lt)
  replace R := Lib.hid (R.out.below hy)
  have RC := Lib.hid (rc)
  clear rc
  clear hy
  have L8 := (NK.out.cell 0).trans kg0.out
  have L9 : (loadVar 26 ⟨V2.heap.size, 1, none⟩).run Try.prog V6 = .ok (.agg S) V6 := by have h := run_part_load (P := Try.prog) 26 1 S.toList _ NK.out kp1.out Try.underlying26 rfl IS.out; rwa [Array.toArray_toList] at h
  replace L9 := Lib.hid L9
  have L10 : (loadVar 26 ⟨V2.heap.size, 18, none⟩).run Try.prog V6 = .ok (.agg D) V6 := by have h := run_part_load (P := Try.prog) 26 18 D.toList _ NK.out kp2.out Try.underlying26 rfl ID.out; rwa [Array.toArray_toList] at h
  replace L10 := Lib.hid L10
  go_wp2_with (first | ((with_reducible refine wpList_load_want (op := ⟨some 63, .load 26 (.tmp 62), _, _, _, _⟩) ?wg9 26 (.tmp 62) ?wo9 ⟨V2.heap.size, 1, none⟩ ?wx9 (.agg S) L9.out ?_); (case wg9 => rfl); (case wo9 => rfl); (case wx9 => rfl)) | ((with_reducible refine wpList_load_want (op := ⟨some 65, .load 26 (.tmp 64), _, _, _, _⟩) ?wg10 26 (.tmp 64) ?wo10 ⟨V2.heap.size, 18, none⟩ ?wx10 (.agg D) L10.out ?_); (case wg10 => rfl); (case wo10 => rfl); (case wx10 => rfl)))
  clear L8 L9 L10
  refine (CG1.out _ _ R.out).mono ?_
  rintro e V7 ⟨rfl, hy⟩
  replace K := Lib.hid (K.out.trans (hy.mono K.out.size))
  replace NK := Lib.hid (NK.out.below hy NK.out.lt)
  replace ND := Lib.hid (ND.out.below hy ND.out.lt)
  replace R := Lib.hid (R.out.below hy)
  replace RC := Lib.hid (RC.out.below hy)
  clear hy
  have L11 := (NK.out.cell 0).trans kg0.out
  have L12 : (loadVar 26 ⟨V2.heap.size, 1, none⟩).run Try.prog V7 = .ok (.agg S) V7 := by have h := run_part_load (P := Try.prog) 26 1 S.toList _ NK.out kp1.out Try.underlying26 rfl IS.out; rwa [Array.toArray_toList] at h
  replace L12 := Lib.hid L12
  have L13 : (loadVar 26 ⟨V2.heap.size + 1, 0, none⟩).run Try.prog V7 = .ok (.agg T) V7 := by have h := run_part_load (P := Try.prog) 26 0 T.toList _ ND.out dp0.out Try.underlying26 rfl IT.out; rwa [Array.toArray_toList] at h
  replace L13 := Lib.hid L13
  go_wp2_with (first | ((with_reducible refine wpList_load_want (op := ⟨some 74, .load 26 (.tmp 73), _, _, _, _⟩) ?wg12 26 (.tmp 73) ?wo12 ⟨V2.heap.size, 1, none⟩ ?wx12 (.agg S) L12.out ?_); (case wg12 => rfl); (case wo12 => rfl); (case wx12 => rfl)) | ((with_reducible refine wpList_load_want (op := ⟨some 76, .load 26 (.tmp 75), _, _, _, _⟩) ?wg13 26 (.tmp 75) ?wo13 ⟨V2.heap.size + 1, 0, none⟩ ?wx13 (.agg T) L13.out ?_); (case wg13 => rfl); (case wo13 => rfl); (case wx13 => rfl)))
  clear L11 L12 L13
  refine (CG2.out _ _ RC.out).mono ?_
  rintro e V8 ⟨rfl, hy⟩
  replace K := Lib.hid (K.out.trans (hy.mono K.out.size))
  replace NK := Lib.hid (NK.out.below hy NK.out.lt)
  replace ND := Lib.hid (ND.out.below hy ND.out.lt)
  replace R := Lib.hid (R.out.below hy)
  replace RC := Lib.hid (RC.out.below hy)
  clear hy
  go_wp2_with fail
  obtain ⟨_, _, e1, HCS⟩ := R.out.cells (by omega)
  cases e1
  obtain ⟨_, _, e2, HCC⟩ := RC.out.cells (by omega)
  cases e2
  have hgb := rd_lt R.out (by omega)
  have hgc := rd_lt RC.out (by omega)
  replace HCS := Lib.hid HCS
  replace HCC := Lib.hid HCC
  go_wp2_with fail
  go_loopw [20] (fun i wr => ∃ j : Nat, j ≤ nn ∧ i = .int .i64 (j : Int) ∧ Hid (Below V8.heap.size V8 wr)) (fun i _ => nn - (RowKit.intOf i).toNat)
  case atStart => exact ⟨0, by omega, rfl, Below.refl _ _⟩
  case round =>
    obtain ⟨j, hj, rfl, hK⟩ := hrel
    have KL := Lib.hid hK.out
    clear hK
    by_cases hlt : j < nn
    · have hjd : decide (j < nn) = true := decide_eq_true hlt
      have hj1 : (j : Int) < (nn : Int) := by omega
      have hj0 : (0 : Int) ≤ (j : Int) := by omega
      have cS := (KL.out.cell (p := ⟨gb, ob + j, none⟩) hgb).trans (HCS.out j hlt)
      have cC := (KL.out.cell (p := ⟨gc, oc + j, none⟩) hgc).trans (HCC.out j hlt)
      have hmath := HB7.out j
      have xS := HXS.out j
      have xC := HXC.out j
      have qb : gb < wr.heap.size := Nat.lt_of_lt_of_le hgb KL.out.size
      have qc : gc < wr.heap.size := Nat.lt_of_lt_of_le hgc KL.out.size
      generalize SG.getD j 0 = x at *
      generalize C.getD j 0 = y at *
      have CSx := Lib.hid cS
      have CCx := Lib.hid cC
      clear cS cC
      go_upto_region 14 with fail
      by_cases hxy : x = y
      · subst hxy
        clear hmath
        refine wp_region_held (S := (fun w' : World => Below (wr.heap.size) wr w')) (by kernel_rfl) ?_
        change wpAnyH _ _ _ _ _ _ _ _ wr.drew
        have hy : Below wr.heap.size wr wr.drew := (Below.refl _ _).drew
        have hE0 : Below (wr.heap.size) wr wr.drew := (Below.refl _ _).drew
        clear hy
        generalize wr.drew = Y14x0 at hE0  ⊢
        have E0 := Lib.hid hE0
        clear hE0
        refine wpAnyH_take (i := 0) (oi := { dst := some 87, op := Op.move (Operand.tmp 17), type := 22, pos := "law.go:61", after := #[], guard := none }) (v := ?_) rfl (by kernel_rfl) (by kernel_rfl) (by kernel_rfl) (fun _ _ _ h => h) (Or.inl ⟨by rfl, ?_⟩) E0.out ?_
        rotate_left
        · (intro w1 hS; go_simp; try with_reducible rfl)
        simp only [Act.put, List.setIfInBounds_toArray, List.set_cons_zero, List.set_cons_succ]
        refine wpAnyH_take (i := 1) (oi := { dst := some 88, op := Op.move (Operand.tmp 20), type := 3, pos := "law.go:61", after := #[], guard := none }) (v := ?_) rfl (by kernel_rfl) (by kernel_rfl) (by kernel_rfl) (fun _ _ _ h => h) (Or.inl ⟨by rfl, ?_⟩) E0.out ?_
        rotate_left
        · (intro w1 hS; go_simp; try with_reducible rfl)
        simp only [Act.put, List.setIfInBounds_toArray, List.set_cons_zero, List.set_cons_succ]
        refine wpAnyH_take (i := 2) (oi := { dst := some 89, op := Op.indexAddr 22 (Operand.tmp 87) (Operand.tmp 88), type := 0, pos := "law.go:61", after := #[{ on := 0, ground := Ground.data }, { on := 1, ground := Ground.data }], guard := none }) (v := ?_) rfl (by kernel_rfl) (by kernel_rfl) (by kernel_rfl) (fun _ _ _ h => h) (Or.inl ⟨by rfl, ?_⟩) E0.out ?_
        rotate_left
        · (intro w1 hS; go_simp; try with_reducible rfl)
        simp only [Act.put, List.setIfInBounds_toArray, List.set_cons_zero, List.set_cons_succ]
        refine wpAnyH_take (i := 3) (oi := { dst := some 90, op := Op.load 5 (Operand.tmp 89), type := 5, pos := "law.go:61", after := #[{ on := 2, ground := Ground.data }], guard := none }) (v := ?_) rfl (by kernel_rfl) (by kernel_rfl) (by kernel_rfl) (fun _ _ _ h => h) (Or.inl ⟨by rfl, ?_⟩) E0.out ?_
        rotate_left
        · (intro w1 hS; have hW := hS; have q := (hW.cell (p := ⟨gb, ob + j, none⟩) qb).trans CSx.out; clear hW hS; go_simp; try with_reducible rfl)
        simp only [Act.put, List.setIfInBounds_toArray, List.set_cons_zero, List.set_cons_succ]
        refine wpAnyH_take (i := 4) (oi := { dst := some 91, op := Op.move (Operand.tmp 18), type := 22, pos := "law.go:61", after := #[], guard := none }) (v := ?_) rfl (by kernel_rfl) (by kernel_rfl) (by kernel_rfl) (fun _ _ _ h => h) (Or.inl ⟨by rfl, ?_⟩) E0.out ?_
        rotate_left
        · (intro w1 hS; go_simp; try with_reducible rfl)
        simp only [Act.put, List.setIfInBounds_toArray, List.set_cons_zero, List.set_cons_succ]
        refine wpAnyH_take (i := 5) (oi := { dst := some 92, op := Op.move (Operand.tmp 20), type := 3, pos := "law.go:61", after := #[], guard := none }) (v := ?_) rfl (by kernel_rfl) (by kernel_rfl) (by kernel_rfl) (fun _ _ _ h => h) (Or.inl ⟨by rfl, ?_⟩) E0.out ?_
        rotate_left
        · (intro w1 hS; go_simp; try with_reducible rfl)
        simp only [Act.put, List.setIfInBounds_toArray, List.set_cons_zero, List.set_cons_succ]
        refine wpAnyH_take (i := 6) (oi := { dst := some 93, op := Op.indexAddr 22 (Operand.tmp 91) (Operand.tmp 92), type := 0, pos := "law.go:61", after := #[{ on := 4, ground := Ground.data }, { on := 5, ground := Ground.data }], guard := none }) (v := ?_) rfl (by kernel_rfl) (by kernel_rfl) (by kernel_rfl) (fun _ _ _ h => h) (Or.inl ⟨by rfl, ?_⟩) E0.out ?_
        rotate_left
        · (intro w1 hS; go_simp; try with_reducible rfl)
        simp only [Act.put, List.setIfInBounds_toArray, List.set_cons_zero, List.set_cons_succ]
        refine wpAnyH_take (i := 7) (oi := { dst := some 94, op := Op.load 5 (Operand.tmp 93), type := 5, pos := "law.go:61", after := #[{ on := 6, ground := Ground.data }], guard := none }) (v := ?_) rfl (by kernel_rfl) (by kernel_rfl) (by kernel_rfl) (fun _ _ _ h => h) (Or.inl ⟨by rfl, ?_⟩) E0.out ?_
        rotate_left
        · (intro w1 hS; have hW := hS; have q := (hW.cell (p := ⟨gc, oc + j, none⟩) qc).trans CCx.out; clear hW hS; go_simp; try with_reducible rfl)
        simp only [Act.put, List.setIfInBounds_toArray, List.set_cons_zero, List.set_cons_succ]
        refine wpAnyH_take (i := 8) (oi := { dst := some 95, op := Op.binOp BinOp.neq 5 (Operand.tmp 90) (Operand.tmp 94) 5, type := 4, pos := "law.go:61", after := #[{ on := 3, ground := Ground.data }, { on := 7, ground := Ground.data }], guard := none }) (v := ?_) rfl (by kernel_rfl) (by kernel_rfl) (by kernel_rfl) (fun _ _ _ h => h) (Or.inl ⟨by rfl, ?_⟩) E0.out ?_
        rotate_left
        · (intro w1 hS; go_simp; try with_reducible rfl)
        simp only [Act.put, List.setIfInBounds_toArray, List.set_cons_zero, List.set_cons_succ]
        refine wpAnyH_take (i := 9) (oi := { dst := some 96, op := Op.move (Operand.tmp 95), type := 4, pos := "law.go:61", after := #[{ on := 8, ground := Ground.data }], guard := none }) (v := ?_) rfl (by kernel_rfl) (by kernel_rfl) (by kernel_rfl) (fun _ _ _ h => h) (Or.inl ⟨by rfl, ?_⟩) E0.out ?_
        rotate_left
        · (intro w1 hS; go_simp; try with_reducible rfl)
        simp only [Act.put, List.setIfInBounds_toArray, List.set_cons_zero, List.set_cons_succ]
        refine wpAnyH_take (i := 10) (oi := { dst := some 97, op := Op.move (Operand.tmp 20), type := 3, pos := "law.go:61", after := #[{ on := 9, ground := Ground.guard }], guard := some (9, true) }) (v := undef) rfl (by kernel_rfl) (by kernel_rfl) (by kernel_rfl) (fun _ _ _ h => h) (Or.inr ⟨by rfl, rfl⟩) E0.out ?_
        simp only [Act.put, List.setIfInBounds_toArray, List.set_cons_zero, List.set_cons_succ]
        refine wpAnyH_take (i := 11) (oi := { dst := some 98, op := Op.binOp BinOp.neq 3 (Operand.tmp 97) (Operand.const (Value.int IntKind.i64 2)) 3, type := 4, pos := "law.go:61", after := #[{ on := 10, ground := Ground.data }, { on := 9, ground := Ground.guard }], guard := some (9, true) }) (v := undef) rfl (by kernel_rfl) (by kernel_rfl) (by kernel_rfl) (fun _ _ _ h => h) (Or.inr ⟨by rfl, rfl⟩) E0.out ?_
        simp only [Act.put, List.setIfInBounds_toArray, List.set_cons_zero, List.set_cons_succ]
        refine wpAnyH_take (i := 12) (oi := { dst := some 99, op := Op.pick (Operand.tmp 96) (Operand.tmp 98) (Operand.const (Value.bool false)), type := 4, pos := "law.go:61", after := #[{ on := 9, ground := Ground.data }, { on := 11, ground := Ground.data }], guard := none }) (v := ?_) rfl (by kernel_rfl) (by kernel_rfl) (by kernel_rfl) (fun _ _ _ h => h) (Or.inl ⟨by rfl, ?_⟩) E0.out ?_
        rotate_left
        · (intro w1 hS; go_simp; try with_reducible rfl)
        simp only [Act.put, List.setIfInBounds_toArray, List.set_cons_zero, List.set_cons_succ]
        refine wpAnyH_take (i := 13) (oi := { dst := some 100, op := Op.move (Operand.tmp 99), type := 4, pos := "law.go:61", after := #[{ on := 12, ground := Ground.data }, { on := 9, ground := Ground.chain }], guard := none }) (v := ?_) rfl (by kernel_rfl) (by kernel_rfl) (by kernel_rfl) (fun _ _ _ h => h) (Or.inl ⟨by rfl, ?_⟩) E0.out ?_
        rotate_left
        · (intro w1 hS; go_simp; try with_reducible rfl)
        simp only [Act.put, List.setIfInBounds_toArray, List.set_cons_zero, List.set_cons_succ]
        refine wpAnyH_take (i := 14) (oi := { dst := some 101, op := Op.move (Operand.tmp 20), type := 3, pos := "law.go:61", after := #[{ on := 13, ground := Ground.guard }], guard := some (13, true) }) (v := undef) rfl (by kernel_rfl) (by kernel_rfl) (by kernel_rfl) (fun _ _ _ h => h) (Or.inr ⟨by rfl, rfl⟩) E0.out ?_
        simp only [Act.put, List.setIfInBounds_toArray, List.set_cons_zero, List.set_cons_succ]
        refine wpAnyH_take (i := 15) (oi := { dst := some 102, op := Op.binOp BinOp.neq 3 (Operand.tmp 101) (Operand.const (Value.int IntKind.i64 3)) 3, type := 4, pos := "law.go:61", after := #[{ on := 14, ground := Ground.data }, { on := 13, ground := Ground.guard }], guard := some (13, true) }) (v := undef) rfl (by kernel_rfl) (by kernel_rfl) (by kernel_rfl) (fun _ _ _ h => h) (Or.inr ⟨by rfl, rfl⟩) E0.out ?_
        simp only [Act.put, List.setIfInBounds_toArray, List.set_cons_zero, List.set_cons_succ]
        refine wpAnyH_take (i := 16) (oi := { dst := some 103, op := Op.pick (Operand.tmp 100) (Operand.tmp 102) (Operand.const (Value.bool false)), type := 4, pos := "law.go:61", after := #[{ on := 13, ground := Ground.data }, { on := 15, ground := Ground.data }], guard := none }) (v := ?_) rfl (by kernel_rfl) (by kernel_rfl) (by kernel_rfl) (fun _ _ _ h => h) (Or.inl ⟨by rfl, ?_⟩) E0.out ?_
        rotate_left
        · (intro w1 hS; go_simp; try with_reducible rfl)
        simp only [Act.put, List.setIfInBounds_toArray, List.set_cons_zero, List.set_cons_succ]
        refine wpAnyH_take (i := 17) (oi := { dst := some 104, op := Op.move (Operand.tmp 103), type := 4, pos := "law.go:61", after := #[{ on := 16, ground := Ground.data }, { on := 13, ground := Ground.chain }], guard := none }) (v := ?_) rfl (by kernel_rfl) (by kernel_rfl) (by kernel_rfl) (fun _ _ _ h => h) (Or.inl ⟨by rfl, ?_⟩) E0.out ?_
        rotate_left
        · (intro w1 hS; go_simp; try with_reducible rfl)
        simp only [Act.put, List.setIfInBounds_toArray, List.set_cons_zero, List.set_cons_succ]
        refine wpAnyH_take (i := 18) (oi := { dst := some 105, op := Op.move (Operand.tmp 20), type := 3, pos := "law.go:61", after := #[{ on := 17, ground := Ground.guard }], guard := some (17, true) }) (v := undef) rfl (by kernel_rfl) (by kernel_rfl) (by kernel_rfl) (fun _ _ _ h => h) (Or.inr ⟨by rfl, rfl⟩) E0.out ?_
        simp only [Act.put, List.setIfInBounds_toArray, List.set_cons_zero, List.set_cons_succ]
        refine wpAnyH_take (i := 19) (oi := { dst := some 106, op := Op.move (Operand.tmp 19), type := 3, pos := "law.go:61", after := #[{ on := 17, ground := Ground.guard }], guard := some (17, true) }) (v := undef) rfl (by kernel_rfl) (by kernel_rfl) (by kernel_rfl) (fun _ _ _ h => h) (Or.inr ⟨by rfl, rfl⟩) E0.out ?_
        simp only [Act.put, List.setIfInBounds_toArray, List.set_cons_zero, List.set_cons_succ]
        refine wpAnyH_take (i := 20) (oi := { dst := some 107, op := Op.binOp BinOp.neq 3 (Operand.tmp 105) (Operand.tmp 106) 3, type := 4, pos := "law.go:61", after := #[{ on := 18, ground := Ground.data }, { on := 19, ground := Ground.data }, { on := 17, ground := Ground.guard }], guard := some (17, true) }) (v := undef) rfl (by kernel_rfl) (by kernel_rfl) (by kernel_rfl) (fun _ _ _ h => h) (Or.inr ⟨by rfl, rfl⟩) E0.out ?_
        simp only [Act.put, List.setIfInBounds_toArray, List.set_cons_zero, List.set_cons_succ]
        refine wpAnyH_take (i := 21) (oi := { dst := some 108, op := Op.pick (Operand.tmp 104) (Operand.tmp 107) (Operand.const (Value.bool false)), type := 4, pos := "law.go:61", after := #[{ on := 17, ground := Ground.data }, { on := 20, ground := Ground.data }], guard := none }) (v := ?_) rfl (by kernel_rfl) (by kernel_rfl) (by kernel_rfl) (fun _ _ _ h => h) (Or.inl ⟨by rfl, ?_⟩) E0.out ?_
        rotate_left
        · (intro w1 hS; go_simp; try with_reducible rfl)
        simp only [Act.put, List.setIfInBounds_toArray, List.set_cons_zero, List.set_cons_succ]
        refine wpAnyH_take (i := 22) (oi := { dst := some 109, op := Op.move (Operand.tmp 108), type := 4, pos := "law.go:61", after := #[{ on := 21, ground := Ground.data }, { on := 17, ground := Ground.chain }], guard := none }) (v := ?_) rfl (by kernel_rfl) (by kernel_rfl) (by kernel_rfl) (fun _ _ _ h => h) (Or.inl ⟨by rfl, ?_⟩) E0.out ?_
        rotate_left
        · (intro w1 hS; go_simp; try with_reducible rfl)
        simp only [Act.put, List.setIfInBounds_toArray, List.set_cons_zero, List.set_cons_succ]
        refine wpAnyH_take (i := 23) (oi := { dst := some 110, op := Op.move (Operand.tmp 20), type := 3, pos := "law.go:61", after := #[{ on := 22, ground := Ground.guard }], guard := some (22, true) }) (v := undef) rfl (by kernel_rfl) (by kernel_rfl) (by kernel_rfl) (fun _ _ _ h => h) (Or.inr ⟨by rfl, rfl⟩) E0.out ?_
        simp only [Act.put, List.setIfInBounds_toArray, List.set_cons_zero, List.set_cons_succ]
        refine wpAnyH_take (i := 24) (oi := { dst := some 111, op := Op.move (Operand.tmp 19), type := 3, pos := "law.go:61", after := #[{ on := 22, ground := Ground.guard }], guard := some (22, true) }) (v := undef) rfl (by kernel_rfl) (by kernel_rfl) (by kernel_rfl) (fun _ _ _ h => h) (Or.inr ⟨by rfl, rfl⟩) E0.out ?_
        simp only [Act.put, List.setIfInBounds_toArray, List.set_cons_zero, List.set_cons_succ]
        refine wpAnyH_take (i := 25) (oi := { dst := some 112, op := Op.binOp BinOp.add 3 (Operand.tmp 111) (Operand.const (Value.int IntKind.i64 1)) 3, type := 3, pos := "law.go:61", after := #[{ on := 24, ground := Ground.data }, { on := 22, ground := Ground.guard }], guard := some (22, true) }) (v := undef) rfl (by kernel_rfl) (by kernel_rfl) (by kernel_rfl) (fun _ _ _ h => h) (Or.inr ⟨by rfl, rfl⟩) E0.out ?_
        simp only [Act.put, List.setIfInBounds_toArray, List.set_cons_zero, List.set_cons_succ]
        refine wpAnyH_take (i := 26) (oi := { dst := some 113, op := Op.binOp BinOp.neq 3 (Operand.tmp 110) (Operand.tmp 112) 3, type := 4, pos := "law.go:61", after := #[{ on := 23, ground := Ground.data }, { on := 25, ground := Ground.data }, { on := 22, ground := Ground.guard }], guard := some (22, true) }) (v := undef) rfl (by kernel_rfl) (by kernel_rfl) (by kernel_rfl) (fun _ _ _ h => h) (Or.inr ⟨by rfl, rfl⟩) E0.out ?_
        simp only [Act.put, List.setIfInBounds_toArray, List.set_cons_zero, List.set_cons_succ]
        refine wpAnyH_take (i := 27) (oi := { dst := some 114, op := Op.pick (Operand.tmp 109) (Operand.tmp 113) (Operand.const (Value.bool false)), type := 4, pos := "law.go:61", after := #[{ on := 22, ground := Ground.data }, { on := 26, ground := Ground.data }], guard := none }) (v := ?_) rfl (by kernel_rfl) (by kernel_rfl) (by kernel_rfl) (fun _ _ _ h => h) (Or.inl ⟨by rfl, ?_⟩) E0.out ?_
        rotate_left
        · (intro w1 hS; go_simp; try with_reducible rfl)
        simp only [Act.put, List.setIfInBounds_toArray, List.set_cons_zero, List.set_cons_succ]
        refine wpAnyH_done (by kernel_rfl) ?_ _
        have hy := E0.out
        replace KL := Lib.hid (KL.out.trans (hy.mono KL.out.size))
        clear hy E0
        go_wp2
        go_roundw
        case rel => exact ⟨j + 1, by omega, by go_num, KL⟩
        case measure => simp [RowKit.intOf]; omega
      · have hj3 := hmath.resolve_left hxy
        have hne : ((x : Int) == (y : Int)) = false := by rw [beq_eq_false_iff_ne]; omega
        have hn2 : (x == y) = false := by rw [beq_eq_false_iff_ne]; exact hxy
        have hn3 : decide (x = y) = false := decide_eq_false hxy
        have hn4 : ((x : Int) != (y : Int)) = true := by rw [bne, hne]; rfl
        clear hmath
        rcases hj3 with rfl | rfl | rfl | rfl
        · have hj1 : (2 : Int) < (nn : Int) := by omega
          have hj0 : (0 : Int) ≤ 2 := by omega
          refine wp_region_held (S := (fun w' : World => Below (wr.heap.size) wr w')) (by kernel_rfl) ?_
          change wpAnyH _ _ _ _ _ _ _ _ wr.drew
          have hy : Below wr.heap.size wr wr.drew := (Below.refl _ _).drew
          have hE0 : Below (wr.heap.size) wr wr.drew := (Below.refl _ _).drew
          clear hy
          generalize wr.drew = Y14x0 at hE0  ⊢
          have E0 := Lib.hid hE0
          clear hE0
          refine wpAnyH_take (i := 0) (oi := { dst := some 87, op := Op.move (Operand.tmp 17), type := 22, pos := "law.go:61", after := #[], guard := none }) (v := ?_) rfl (by kernel_rfl) (by kernel_rfl) (by kernel_rfl) (fun _ _ _ h => h) (Or.inl ⟨by rfl, ?_⟩) E0.out ?_
          rotate_left
          · (intro w1 hS; go_simp; try with_reducible rfl)
          simp only [Act.put, List.setIfInBounds_toArray, List.set_cons_zero, List.set_cons_succ]
          refine wpAnyH_take (i := 1) (oi := { dst := some 88, op := Op.move (Operand.tmp 20), type := 3, pos := "law.go:61", after := #[], guard := none }) (v := ?_) rfl (by kernel_rfl) (by kernel_rfl) (by kernel_rfl) (fun _ _ _ h => h) (Or.inl ⟨by rfl, ?_⟩) E0.out ?_
          rotate_left
          · (intro w1 hS; go_simp; try with_reducible rfl)
          simp only [Act.put, List.setIfInBounds_toArray, List.set_cons_zero, List.set_cons_succ]
          refine wpAnyH_take (i := 2) (oi := { dst := some 89, op := Op.indexAddr 22 (Operand.tmp 87) (Operand.tmp 88), type := 0, pos := "law.go:61", after := #[{ on := 0, ground := Ground.data }, { on := 1, ground := Ground.data }], guard := none }) (v := ?_) rfl (by kernel_rfl) (by kernel_rfl) (by kernel_rfl) (fun _ _ _ h => h) (Or.inl ⟨by rfl, ?_⟩) E0.out ?_
          rotate_left
          · (intro w1 hS; go_simp; try with_reducible rfl)
          simp only [Act.put, List.setIfInBounds_toArray, List.set_cons_zero, List.set_cons_succ]
          refine wpAnyH_take (i := 3) (oi := { dst := some 90, op := Op.load 5 (Operand.tmp 89), type := 5, pos := "law.go:61", after := #[{ on := 2, ground := Ground.data }], guard := none }) (v := ?_) rfl (by kernel_rfl) (by kernel_rfl) (by kernel_rfl) (fun _ _ _ h => h) (Or.inl ⟨by rfl, ?_⟩) E0.out ?_
          rotate_left
          · (intro w1 hS; have hW := hS; have q := (hW.cell (p := ⟨gb, ob + 2, none⟩) qb).trans CSx.out; clear hW hS; go_simp; try with_reducible rfl)
          simp only [Act.put, List.setIfInBounds_toArray, List.set_cons_zero, List.set_cons_succ]
          refine wpAnyH_take (i := 4) (oi := { dst := some 91, op := Op.move (Operand.tmp 18), type := 22, pos := "law.go:61", after := #[], guard := none }) (v := ?_) rfl (by kernel_rfl) (by kernel_rfl) (by kernel_rfl) (fun _ _ _ h => h) (Or.inl ⟨by rfl, ?_⟩) E0.out ?_
          rotate_left
          · (intro w1 hS; go_simp; try with_reducible rfl)
          simp only [Act.put, List.setIfInBounds_toArray, List.set_cons_zero, List.set_cons_succ]
          refine wpAnyH_take (i := 5) (oi := { dst := some 92, op := Op.move (Operand.tmp 20), type := 3, pos := "law.go:61", after := #[], guard := none }) (v := ?_) rfl (by kernel_rfl) (by kernel_rfl) (by kernel_rfl) (fun _ _ _ h => h) (Or.inl ⟨by rfl, ?_⟩) E0.out ?_
          rotate_left
          · (intro w1 hS; go_simp; try with_reducible rfl)
          simp only [Act.put, List.setIfInBounds_toArray, List.set_cons_zero, List.set_cons_succ]
          refine wpAnyH_take (i := 6) (oi := { dst := some 93, op := Op.indexAddr 22 (Operand.tmp 91) (Operand.tmp 92), type := 0, pos := "law.go:61", after := #[{ on := 4, ground := Ground.data }, { on := 5, ground := Ground.data }], guard := none }) (v := ?_) rfl (by kernel_rfl) (by kernel_rfl) (by kernel_rfl) (fun _ _ _ h => h) (Or.inl ⟨by rfl, ?_⟩) E0.out ?_
          rotate_left
          · (intro w1 hS; go_simp; try with_reducible rfl)
          simp only [Act.put, List.setIfInBounds_toArray, List.set_cons_zero, List.set_cons_succ]
          refine wpAnyH_take (i := 7) (oi := { dst := some 94, op := Op.load 5 (Operand.tmp 93), type := 5, pos := "law.go:61", after := #[{ on := 6, ground := Ground.data }], guard := none }) (v := ?_) rfl (by kernel_rfl) (by kernel_rfl) (by kernel_rfl) (fun _ _ _ h => h) (Or.inl ⟨by rfl, ?_⟩) E0.out ?_
          rotate_left
          · (intro w1 hS; have hW := hS; have q := (hW.cell (p := ⟨gc, oc + 2, none⟩) qc).trans CCx.out; clear hW hS; go_simp; try with_reducible rfl)
          simp only [Act.put, List.setIfInBounds_toArray, List.set_cons_zero, List.set_cons_succ]
          refine wpAnyH_take (i := 8) (oi := { dst := some 95, op := Op.binOp BinOp.neq 5 (Operand.tmp 90) (Operand.tmp 94) 5, type := 4, pos := "law.go:61", after := #[{ on := 3, ground := Ground.data }, { on := 7, ground := Ground.data }], guard := none }) (v := ?_) rfl (by kernel_rfl) (by kernel_rfl) (by kernel_rfl) (fun _ _ _ h => h) (Or.inl ⟨by rfl, ?_⟩) E0.out ?_
          rotate_left
          · (intro w1 hS; go_simp; try with_reducible rfl)
          simp only [Act.put, List.setIfInBounds_toArray, List.set_cons_zero, List.set_cons_succ]
          refine wpAnyH_take (i := 9) (oi := { dst := some 96, op := Op.move (Operand.tmp 95), type := 4, pos := "law.go:61", after := #[{ on := 8, ground := Ground.data }], guard := none }) (v := ?_) rfl (by kernel_rfl) (by kernel_rfl) (by kernel_rfl) (fun _ _ _ h => h) (Or.inl ⟨by rfl, ?_⟩) E0.out ?_
          rotate_left
          · (intro w1 hS; go_simp; try with_reducible rfl)
          simp only [Act.put, List.setIfInBounds_toArray, List.set_cons_zero, List.set_cons_succ]
          refine wpAnyH_take (i := 10) (oi := { dst := some 97, op := Op.move (Operand.tmp 20), type := 3, pos := "law.go:61", after := #[{ on := 9, ground := Ground.guard }], guard := some (9, true) }) (v := ?_) rfl (by kernel_rfl) (by kernel_rfl) (by kernel_rfl) (fun _ _ _ h => h) (Or.inl ⟨by rfl, ?_⟩) E0.out ?_
          rotate_left
          · (intro w1 hS; go_simp; try with_reducible rfl)
          simp only [Act.put, List.setIfInBounds_toArray, List.set_cons_zero, List.set_cons_succ]
          refine wpAnyH_take (i := 11) (oi := { dst := some 98, op := Op.binOp BinOp.neq 3 (Operand.tmp 97) (Operand.const (Value.int IntKind.i64 2)) 3, type := 4, pos := "law.go:61", after := #[{ on := 10, ground := Ground.data }, { on := 9, ground := Ground.guard }], guard := some (9, true) }) (v := ?_) rfl (by kernel_rfl) (by kernel_rfl) (by kernel_rfl) (fun _ _ _ h => h) (Or.inl ⟨by rfl, ?_⟩) E0.out ?_
          rotate_left
          · (intro w1 hS; go_simp; try with_reducible rfl)
          simp only [Act.put, List.setIfInBounds_toArray, List.set_cons_zero, List.set_cons_succ]
          refine wpAnyH_take (i := 12) (oi := { dst := some 99, op := Op.pick (Operand.tmp 96) (Operand.tmp 98) (Operand.const (Value.bool false)), type := 4, pos := "law.go:61", after := #[{ on := 9, ground := Ground.data }, { on := 11, ground := Ground.data }], guard := none }) (v := ?_) rfl (by kernel_rfl) (by kernel_rfl) (by kernel_rfl) (fun _ _ _ h => h) (Or.inl ⟨by rfl, ?_⟩) E0.out ?_
          rotate_left
          · (intro w1 hS; go_simp; try with_reducible rfl)
          simp only [Act.put, List.setIfInBounds_toArray, List.set_cons_zero, List.set_cons_succ]
          refine wpAnyH_take (i := 13) (oi := { dst := some 100, op := Op.move (Operand.tmp 99), type := 4, pos := "law.go:61", after := #[{ on := 12, ground := Ground.data }, { on := 9, ground := Ground.chain }], guard := none }) (v := ?_) rfl (by kernel_rfl) (by kernel_rfl) (by kernel_rfl) (fun _ _ _ h => h) (Or.inl ⟨by rfl, ?_⟩) E0.out ?_
          rotate_left
          · (intro w1 hS; go_simp; try with_reducible rfl)
          simp only [Act.put, List.setIfInBounds_toArray, List.set_cons_zero, List.set_cons_succ]
          refine wpAnyH_take (i := 14) (oi := { dst := some 101, op := Op.move (Operand.tmp 20), type := 3, pos := "law.go:61", after := #[{ on := 13, ground := Ground.guard }], guard := some (13, true) }) (v := undef) rfl (by kernel_rfl) (by kernel_rfl) (by kernel_rfl) (fun _ _ _ h => h) (Or.inr ⟨by rfl, rfl⟩) E0.out ?_
          simp only [Act.put, List.setIfInBounds_toArray, List.set_cons_zero, List.set_cons_succ]
          refine wpAnyH_take (i := 15) (oi := { dst := some 102, op := Op.binOp BinOp.neq 3 (Operand.tmp 101) (Operand.const (Value.int IntKind.i64 3)) 3, type := 4, pos := "law.go:61", after := #[{ on := 14, ground := Ground.data }, { on := 13, ground := Ground.guard }], guard := some (13, true) }) (v := undef) rfl (by kernel_rfl) (by kernel_rfl) (by kernel_rfl) (fun _ _ _ h => h) (Or.inr ⟨by rfl, rfl⟩) E0.out ?_
          simp only [Act.put, List.setIfInBounds_toArray, List.set_cons_zero, List.set_cons_succ]
          refine wpAnyH_take (i := 16) (oi := { dst := some 103, op := Op.pick (Operand.tmp 100) (Operand.tmp 102) (Operand.const (Value.bool false)), type := 4, pos := "law.go:61", after := #[{ on := 13, ground := Ground.data }, { on := 15, ground := Ground.data }], guard := none }) (v := ?_) rfl (by kernel_rfl) (by kernel_rfl) (by kernel_rfl) (fun _ _ _ h => h) (Or.inl ⟨by rfl, ?_⟩) E0.out ?_
          rotate_left
          · (intro w1 hS; go_simp; try with_reducible rfl)
          simp only [Act.put, List.setIfInBounds_toArray, List.set_cons_zero, List.set_cons_succ]
          refine wpAnyH_take (i := 17) (oi := { dst := some 104, op := Op.move (Operand.tmp 103), type := 4, pos := "law.go:61", after := #[{ on := 16, ground := Ground.data }, { on := 13, ground := Ground.chain }], guard := none }) (v := ?_) rfl (by kernel_rfl) (by kernel_rfl) (by kernel_rfl) (fun _ _ _ h => h) (Or.inl ⟨by rfl, ?_⟩) E0.out ?_
          rotate_left
          · (intro w1 hS; go_simp; try with_reducible rfl)
          simp only [Act.put, List.setIfInBounds_toArray, List.set_cons_zero, List.set_cons_succ]
          refine wpAnyH_take (i := 18) (oi := { dst := some 105, op := Op.move (Operand.tmp 20), type := 3, pos := "law.go:61", after := #[{ on := 17, ground := Ground.guard }], guard := some (17, true) }) (v := undef) rfl (by kernel_rfl) (by kernel_rfl) (by kernel_rfl) (fun _ _ _ h => h) (Or.inr ⟨by rfl, rfl⟩) E0.out ?_
          simp only [Act.put, List.setIfInBounds_toArray, List.set_cons_zero, List.set_cons_succ]
          refine wpAnyH_take (i := 19) (oi := { dst := some 106, op := Op.move (Operand.tmp 19), type := 3, pos := "law.go:61", after := #[{ on := 17, ground := Ground.guard }], guard := some (17, true) }) (v := undef) rfl (by kernel_rfl) (by kernel_rfl) (by kernel_rfl) (fun _ _ _ h => h) (Or.inr ⟨by rfl, rfl⟩) E0.out ?_
          simp only [Act.put, List.setIfInBounds_toArray, List.set_cons_zero, List.set_cons_succ]
          refine wpAnyH_take (i := 20) (oi := { dst := some 107, op := Op.binOp BinOp.neq 3 (Operand.tmp 105) (Operand.tmp 106) 3, type := 4, pos := "law.go:61", after := #[{ on := 18, ground := Ground.data }, { on := 19, ground := Ground.data }, { on := 17, ground := Ground.guard }], guard := some (17, true) }) (v := undef) rfl (by kernel_rfl) (by kernel_rfl) (by kernel_rfl) (fun _ _ _ h => h) (Or.inr ⟨by rfl, rfl⟩) E0.out ?_
          simp only [Act.put, List.setIfInBounds_toArray, List.set_cons_zero, List.set_cons_succ]
          refine wpAnyH_take (i := 21) (oi := { dst := some 108, op := Op.pick (Operand.tmp 104) (Operand.tmp 107) (Operand.const (Value.bool false)), type := 4, pos := "law.go:61", after := #[{ on := 17, ground := Ground.data }, { on := 20, ground := Ground.data }], guard := none }) (v := ?_) rfl (by kernel_rfl) (by kernel_rfl) (by kernel_rfl) (fun _ _ _ h => h) (Or.inl ⟨by rfl, ?_⟩) E0.out ?_
          rotate_left
          · (intro w1 hS; go_simp; try with_reducible rfl)
          simp only [Act.put, List.setIfInBounds_toArray, List.set_cons_zero, List.set_cons_succ]
          refine wpAnyH_take (i := 22) (oi := { dst := some 109, op := Op.move (Operand.tmp 108), type := 4, pos := "law.go:61", after := #[{ on := 21, ground := Ground.data }, { on := 17, ground := Ground.chain }], guard := none }) (v := ?_) rfl (by kernel_rfl) (by kernel_rfl) (by kernel_rfl) (fun _ _ _ h => h) (Or.inl ⟨by rfl, ?_⟩) E0.out ?_
          rotate_left
          · (intro w1 hS; go_simp; try with_reducible rfl)
          simp only [Act.put, List.setIfInBounds_toArray, List.set_cons_zero, List.set_cons_succ]
          refine wpAnyH_take (i := 23) (oi := { dst := some 110, op := Op.move (Operand.tmp 20), type := 3, pos := "law.go:61", after := #[{ on := 22, ground := Ground.guard }], guard := some (22, true) }) (v := undef) rfl (by kernel_rfl) (by kernel_rfl) (by kernel_rfl) (fun _ _ _ h => h) (Or.inr ⟨by rfl, rfl⟩) E0.out ?_
          simp only [Act.put, List.setIfInBounds_toArray, List.set_cons_zero, List.set_cons_succ]
          refine wpAnyH_take (i := 24) (oi := { dst := some 111, op := Op.move (Operand.tmp 19), type := 3, pos := "law.go:61", after := #[{ on := 22, ground := Ground.guard }], guard := some (22, true) }) (v := undef) rfl (by kernel_rfl) (by kernel_rfl) (by kernel_rfl) (fun _ _ _ h => h) (Or.inr ⟨by rfl, rfl⟩) E0.out ?_
          simp only [Act.put, List.setIfInBounds_toArray, List.set_cons_zero, List.set_cons_succ]
          refine wpAnyH_take (i := 25) (oi := { dst := some 112, op := Op.binOp BinOp.add 3 (Operand.tmp 111) (Operand.const (Value.int IntKind.i64 1)) 3, type := 3, pos := "law.go:61", after := #[{ on := 24, ground := Ground.data }, { on := 22, ground := Ground.guard }], guard := some (22, true) }) (v := undef) rfl (by kernel_rfl) (by kernel_rfl) (by kernel_rfl) (fun _ _ _ h => h) (Or.inr ⟨by rfl, rfl⟩) E0.out ?_
          simp only [Act.put, List.setIfInBounds_toArray, List.set_cons_zero, List.set_cons_succ]
          refine wpAnyH_take (i := 26) (oi := { dst := some 113, op := Op.binOp BinOp.neq 3 (Operand.tmp 110) (Operand.tmp 112) 3, type := 4, pos := "law.go:61", after := #[{ on := 23, ground := Ground.data }, { on := 25, ground := Ground.data }, { on := 22, ground := Ground.guard }], guard := some (22, true) }) (v := undef) rfl (by kernel_rfl) (by kernel_rfl) (by kernel_rfl) (fun _ _ _ h => h) (Or.inr ⟨by rfl, rfl⟩) E0.out ?_
          simp only [Act.put, List.setIfInBounds_toArray, List.set_cons_zero, List.set_cons_succ]
          refine wpAnyH_take (i := 27) (oi := { dst := some 114, op := Op.pick (Operand.tmp 109) (Operand.tmp 113) (Operand.const (Value.bool false)), type := 4, pos := "law.go:61", after := #[{ on := 22, ground := Ground.data }, { on := 26, ground := Ground.data }], guard := none }) (v := ?_) rfl (by kernel_rfl) (by kernel_rfl) (by kernel_rfl) (fun _ _ _ h => h) (Or.inl ⟨by rfl, ?_⟩) E0.out ?_
          rotate_left
          · (intro w1 hS; go_simp; try with_reducible rfl)
          simp only [Act.put, List.setIfInBounds_toArray, List.set_cons_zero, List.set_cons_succ]
          refine wpAnyH_done (by kernel_rfl) ?_ _
          have hy := E0.out
          replace KL := Lib.hid (KL.out.trans (hy.mono KL.out.size))
          clear hy E0
          go_wp2
          go_roundw
          case rel => exact ⟨2 + 1, by omega, by go_num, KL⟩
          case measure => simp [RowKit.intOf]; omega
        · have hj1 : (3 : Int) < (nn : Int) := by omega
          have hj0 : (0 : Int) ≤ 3 := by omega
          refine wp_region_held (S := (fun w' : World => Below (wr.heap.size) wr w')) (by kernel_rfl) ?_
          change wpAnyH _ _ _ _ _ _ _ _ wr.drew
          have hy : Below wr.heap.size wr wr.drew := (Below.refl _ _).drew
          have hE0 : Below (wr.heap.size) wr wr.drew := (Below.refl _ _).drew
          clear hy
          generalize wr.drew = Y14x0 at hE0  ⊢
          have E0 := Lib.hid hE0
          clear hE0
          refine wpAnyH_take (i := 0) (oi := { dst := some 87, op := Op.move (Operand.tmp 17), type := 22, pos := "law.go:61", after := #[], guard := none }) (v := ?_) rfl (by kernel_rfl) (by kernel_rfl) (by kernel_rfl) (fun _ _ _ h => h) (Or.inl ⟨by rfl, ?_⟩) E0.out ?_
          rotate_left
          · (intro w1 hS; go_simp; try with_reducible rfl)
          simp only [Act.put, List.setIfInBounds_toArray, List.set_cons_zero, List.set_cons_succ]
          refine wpAnyH_take (i := 1) (oi := { dst := some 88, op := Op.move (Operand.tmp 20), type := 3, pos := "law.go:61", after := #[], guard := none }) (v := ?_) rfl (by kernel_rfl) (by kernel_rfl) (by kernel_rfl) (fun _ _ _ h => h) (Or.inl ⟨by rfl, ?_⟩) E0.out ?_
          rotate_left
          · (intro w1 hS; go_simp; try with_reducible rfl)
          simp only [Act.put, List.setIfInBounds_toArray, List.set_cons_zero, List.set_cons_succ]
          refine wpAnyH_take (i := 2) (oi := { dst := some 89, op := Op.indexAddr 22 (Operand.tmp 87) (Operand.tmp 88), type := 0, pos := "law.go:61", after := #[{ on := 0, ground := Ground.data }, { on := 1, ground := Ground.data }], guard := none }) (v := ?_) rfl (by kernel_rfl) (by kernel_rfl) (by kernel_rfl) (fun _ _ _ h => h) (Or.inl ⟨by rfl, ?_⟩) E0.out ?_
          rotate_left
          · (intro w1 hS; go_simp; try with_reducible rfl)
          simp only [Act.put, List.setIfInBounds_toArray, List.set_cons_zero, List.set_cons_succ]
          refine wpAnyH_take (i := 3) (oi := { dst := some 90, op := Op.load 5 (Operand.tmp 89), type := 5, pos := "law.go:61", after := #[{ on := 2, ground := Ground.data }], guard := none }) (v := ?_) rfl (by kernel_rfl) (by kernel_rfl) (by kernel_rfl) (fun _ _ _ h => h) (Or.inl ⟨by rfl, ?_⟩) E0.out ?_
          rotate_left
          · (intro w1 hS; have hW := hS; have q := (hW.cell (p := ⟨gb, ob + 3, none⟩) qb).trans CSx.out; clear hW hS; go_simp; try with_reducible rfl)
          simp only [Act.put, List.setIfInBounds_toArray, List.set_cons_zero, List.set_cons_succ]
          refine wpAnyH_take (i := 4) (oi := { dst := some 91, op := Op.move (Operand.tmp 18), type := 22, pos := "law.go:61", after := #[], guard := none }) (v := ?_) rfl (by kernel_rfl) (by kernel_rfl) (by kernel_rfl) (fun _ _ _ h => h) (Or.inl ⟨by rfl, ?_⟩) E0.out ?_
          rotate_left
          · (intro w1 hS; go_simp; try with_reducible rfl)
          simp only [Act.put, List.setIfInBounds_toArray, List.set_cons_zero, List.set_cons_succ]
          refine wpAnyH_take (i := 5) (oi := { dst := some 92, op := Op.move (Operand.tmp 20), type := 3, pos := "law.go:61", after := #[], guard := none }) (v := ?_) rfl (by kernel_rfl) (by kernel_rfl) (by kernel_rfl) (fun _ _ _ h => h) (Or.inl ⟨by rfl, ?_⟩) E0.out ?_
          rotate_left
          · (intro w1 hS; go_simp; try with_reducible rfl)
          simp only [Act.put, List.setIfInBounds_toArray, List.set_cons_zero, List.set_cons_succ]
          refine wpAnyH_take (i := 6) (oi := { dst := some 93, op := Op.indexAddr 22 (Operand.tmp 91) (Operand.tmp 92), type := 0, pos := "law.go:61", after := #[{ on := 4, ground := Ground.data }, { on := 5, ground := Ground.data }], guard := none }) (v := ?_) rfl (by kernel_rfl) (by kernel_rfl) (by kernel_rfl) (fun _ _ _ h => h) (Or.inl ⟨by rfl, ?_⟩) E0.out ?_
          rotate_left
          · (intro w1 hS; go_simp; try with_reducible rfl)
          simp only [Act.put, List.setIfInBounds_toArray, List.set_cons_zero, List.set_cons_succ]
          refine wpAnyH_take (i := 7) (oi := { dst := some 94, op := Op.load 5 (Operand.tmp 93), type := 5, pos := "law.go:61", after := #[{ on := 6, ground := Ground.data }], guard := none }) (v := ?_) rfl (by kernel_rfl) (by kernel_rfl) (by kernel_rfl) (fun _ _ _ h => h) (Or.inl ⟨by rfl, ?_⟩) E0.out ?_
          rotate_left
          · (intro w1 hS; have hW := hS; have q := (hW.cell (p := ⟨gc, oc + 3, none⟩) qc).trans CCx.out; clear hW hS; go_simp; try with_reducible rfl)
          simp only [Act.put, List.setIfInBounds_toArray, List.set_cons_zero, List.set_cons_succ]
          refine wpAnyH_take (i := 8) (oi := { dst := some 95, op := Op.binOp BinOp.neq 5 (Operand.tmp 90) (Operand.tmp 94) 5, type := 4, pos := "law.go:61", after := #[{ on := 3, ground := Ground.data }, { on := 7, ground := Ground.data }], guard := none }) (v := ?_) rfl (by kernel_rfl) (by kernel_rfl) (by kernel_rfl) (fun _ _ _ h => h) (Or.inl ⟨by rfl, ?_⟩) E0.out ?_
          rotate_left
          · (intro w1 hS; go_simp; try with_reducible rfl)
          simp only [Act.put, List.setIfInBounds_toArray, List.set_cons_zero, List.set_cons_succ]
          refine wpAnyH_take (i := 9) (oi := { dst := some 96, op := Op.move (Operand.tmp 95), type := 4, pos := "law.go:61", after := #[{ on := 8, ground := Ground.data }], guard := none }) (v := ?_) rfl (by kernel_rfl) (by kernel_rfl) (by kernel_rfl) (fun _ _ _ h => h) (Or.inl ⟨by rfl, ?_⟩) E0.out ?_
          rotate_left
          · (intro w1 hS; go_simp; try with_reducible rfl)
          simp only [Act.put, List.setIfInBounds_toArray, List.set_cons_zero, List.set_cons_succ]
          refine wpAnyH_take (i := 10) (oi := { dst := some 97, op := Op.move (Operand.tmp 20), type := 3, pos := "law.go:61", after := #[{ on := 9, ground := Ground.guard }], guard := some (9, true) }) (v := ?_) rfl (by kernel_rfl) (by kernel_rfl) (by kernel_rfl) (fun _ _ _ h => h) (Or.inl ⟨by rfl, ?_⟩) E0.out ?_
          rotate_left
          · (intro w1 hS; go_simp; try with_reducible rfl)
          simp only [Act.put, List.setIfInBounds_toArray, List.set_cons_zero, List.set_cons_succ]
          refine wpAnyH_take (i := 11) (oi := { dst := some 98, op := Op.binOp BinOp.neq 3 (Operand.tmp 97) (Operand.const (Value.int IntKind.i64 2)) 3, type := 4, pos := "law.go:61", after := #[{ on := 10, ground := Ground.data }, { on := 9, ground := Ground.guard }], guard := some (9, true) }) (v := ?_) rfl (by kernel_rfl) (by kernel_rfl) (by kernel_rfl) (fun _ _ _ h => h) (Or.inl ⟨by rfl, ?_⟩) E0.out ?_
          rotate_left
          · (intro w1 hS; go_simp; try with_reducible rfl)
          simp only [Act.put, List.setIfInBounds_toArray, List.set_cons_zero, List.set_cons_succ]
          refine wpAnyH_take (i := 12) (oi := { dst := some 99, op := Op.pick (Operand.tmp 96) (Operand.tmp 98) (Operand.const (Value.bool false)), type := 4, pos := "law.go:61", after := #[{ on := 9, ground := Ground.data }, { on := 11, ground := Ground.data }], guard := none }) (v := ?_) rfl (by kernel_rfl) (by kernel_rfl) (by kernel_rfl) (fun _ _ _ h => h) (Or.inl ⟨by rfl, ?_⟩) E0.out ?_
          rotate_left
          · (intro w1 hS; go_simp; try with_reducible rfl)
          simp only [Act.put, List.setIfInBounds_toArray, List.set_cons_zero, List.set_cons_succ]
          refine wpAnyH_take (i := 13) (oi := { dst := some 100, op := Op.move (Operand.tmp 99), type := 4, pos := "law.go:61", after := #[{ on := 12, ground := Ground.data }, { on := 9, ground := Ground.chain }], guard := none }) (v := ?_) rfl (by kernel_rfl) (by kernel_rfl) (by kernel_rfl) (fun _ _ _ h => h) (Or.inl ⟨by rfl, ?_⟩) E0.out ?_
          rotate_left
          · (intro w1 hS; go_simp; try with_reducible rfl)
          simp only [Act.put, List.setIfInBounds_toArray, List.set_cons_zero, List.set_cons_succ]
          refine wpAnyH_take (i := 14) (oi := { dst := some 101, op := Op.move (Operand.tmp 20), type := 3, pos := "law.go:61", after := #[{ on := 13, ground := Ground.guard }], guard := some (13, true) }) (v := ?_) rfl (by kernel_rfl) (by kernel_rfl) (by kernel_rfl) (fun _ _ _ h => h) (Or.inl ⟨by rfl, ?_⟩) E0.out ?_
          rotate_left
          · (intro w1 hS; go_simp; try with_reducible rfl)
          simp only [Act.put, List.setIfInBounds_toArray, List.set_cons_zero, List.set_cons_succ]
          refine wpAnyH_take (i := 15) (oi := { dst := some 102, op := Op.binOp BinOp.neq 3 (Operand.tmp 101) (Operand.const (Value.int IntKind.i64 3)) 3, type := 4, pos := "law.go:61", after := #[{ on := 14, ground := Ground.data }, { on := 13, ground := Ground.guard }], guard := some (13, true) }) (v := ?_) rfl (by kernel_rfl) (by kernel_rfl) (by kernel_rfl) (fun _ _ _ h => h) (Or.inl ⟨by rfl, ?_⟩) E0.out ?_
          rotate_left
          · (intro w1 hS; go_simp; try with_reducible rfl)
          simp only [Act.put, List.setIfInBounds_toArray, List.set_cons_zero, List.set_cons_succ]
          refine wpAnyH_take (i := 16) (oi := { dst := some 103, op := Op.pick (Operand.tmp 100) (Operand.tmp 102) (Operand.const (Value.bool false)), type := 4, pos := "law.go:61", after := #[{ on := 13, ground := Ground.data }, { on := 15, ground := Ground.data }], guard := none }) (v := ?_) rfl (by kernel_rfl) (by kernel_rfl) (by kernel_rfl) (fun _ _ _ h => h) (Or.inl ⟨by rfl, ?_⟩) E0.out ?_
          rotate_left
          · (intro w1 hS; go_simp; try with_reducible rfl)
          simp only [Act.put, List.setIfInBounds_toArray, List.set_cons_zero, List.set_cons_succ]
          refine wpAnyH_take (i := 17) (oi := { dst := some 104, op := Op.move (Operand.tmp 103), type := 4, pos := "law.go:61", after := #[{ on := 16, ground := Ground.data }, { on := 13, ground := Ground.chain }], guard := none }) (v := ?_) rfl (by kernel_rfl) (by kernel_rfl) (by kernel_rfl) (fun _ _ _ h => h) (Or.inl ⟨by rfl, ?_⟩) E0.out ?_
          rotate_left
          · (intro w1 hS; go_simp; try with_reducible rfl)
          simp only [Act.put, List.setIfInBounds_toArray, List.set_cons_zero, List.set_cons_succ]
          refine wpAnyH_take (i := 18) (oi := { dst := some 105, op := Op.move (Operand.tmp 20), type := 3, pos := "law.go:61", after := #[{ on := 17, ground := Ground.guard }], guard := some (17, true) }) (v := undef) rfl (by kernel_rfl) (by kernel_rfl) (by kernel_rfl) (fun _ _ _ h => h) (Or.inr ⟨by rfl, rfl⟩) E0.out ?_
          simp only [Act.put, List.setIfInBounds_toArray, List.set_cons_zero, List.set_cons_succ]
          refine wpAnyH_take (i := 19) (oi := { dst := some 106, op := Op.move (Operand.tmp 19), type := 3, pos := "law.go:61", after := #[{ on := 17, ground := Ground.guard }], guard := some (17, true) }) (v := undef) rfl (by kernel_rfl) (by kernel_rfl) (by kernel_rfl) (fun _ _ _ h => h) (Or.inr ⟨by rfl, rfl⟩) E0.out ?_
          simp only [Act.put, List.setIfInBounds_toArray, List.set_cons_zero, List.set_cons_succ]
          refine wpAnyH_take (i := 20) (oi := { dst := some 107, op := Op.binOp BinOp.neq 3 (Operand.tmp 105) (Operand.tmp 106) 3, type := 4, pos := "law.go:61", after := #[{ on := 18, ground := Ground.data }, { on := 19, ground := Ground.data }, { on := 17, ground := Ground.guard }], guard := some (17, true) }) (v := undef) rfl (by kernel_rfl) (by kernel_rfl) (by kernel_rfl) (fun _ _ _ h => h) (Or.inr ⟨by rfl, rfl⟩) E0.out ?_
          simp only [Act.put, List.setIfInBounds_toArray, List.set_cons_zero, List.set_cons_succ]
          refine wpAnyH_take (i := 21) (oi := { dst := some 108, op := Op.pick (Operand.tmp 104) (Operand.tmp 107) (Operand.const (Value.bool false)), type := 4, pos := "law.go:61", after := #[{ on := 17, ground := Ground.data }, { on := 20, ground := Ground.data }], guard := none }) (v := ?_) rfl (by kernel_rfl) (by kernel_rfl) (by kernel_rfl) (fun _ _ _ h => h) (Or.inl ⟨by rfl, ?_⟩) E0.out ?_
          rotate_left
          · (intro w1 hS; go_simp; try with_reducible rfl)
          simp only [Act.put, List.setIfInBounds_toArray, List.set_cons_zero, List.set_cons_succ]
          refine wpAnyH_take (i := 22) (oi := { dst := some 109, op := Op.move (Operand.tmp 108), type := 4, pos := "law.go:61", after := #[{ on := 21, ground := Ground.data }, { on := 17, ground := Ground.chain }], guard := none }) (v := ?_) rfl (by kernel_rfl) (by kernel_rfl) (by kernel_rfl) (fun _ _ _ h => h) (Or.inl ⟨by rfl, ?_⟩) E0.out ?_
          rotate_left
          · (intro w1 hS; go_simp; try with_reducible rfl)
          simp only [Act.put, List.setIfInBounds_toArray, List.set_cons_zero, List.set_cons_succ]
          refine wpAnyH_take (i := 23) (oi := { dst := some 110, op := Op.move (Operand.tmp 20), type := 3, pos := "law.go:61", after := #[{ on := 22, ground := Ground.guard }], guard := some (22, true) }) (v := undef) rfl (by kernel_rfl) (by kernel_rfl) (by kernel_rfl) (fun _ _ _ h => h) (Or.inr ⟨by rfl, rfl⟩) E0.out ?_
          simp only [Act.put, List.setIfInBounds_toArray, List.set_cons_zero, List.set_cons_succ]
          refine wpAnyH_take (i := 24) (oi := { dst := some 111, op := Op.move (Operand.tmp 19), type := 3, pos := "law.go:61", after := #[{ on := 22, ground := Ground.guard }], guard := some (22, true) }) (v := undef) rfl (by kernel_rfl) (by kernel_rfl) (by kernel_rfl) (fun _ _ _ h => h) (Or.inr ⟨by rfl, rfl⟩) E0.out ?_
          simp only [Act.put, List.setIfInBounds_toArray, List.set_cons_zero, List.set_cons_succ]
          refine wpAnyH_take (i := 25) (oi := { dst := some 112, op := Op.binOp BinOp.add 3 (Operand.tmp 111) (Operand.const (Value.int IntKind.i64 1)) 3, type := 3, pos := "law.go:61", after := #[{ on := 24, ground := Ground.data }, { on := 22, ground := Ground.guard }], guard := some (22, true) }) (v := undef) rfl (by kernel_rfl) (by kernel_rfl) (by kernel_rfl) (fun _ _ _ h => h) (Or.inr ⟨by rfl, rfl⟩) E0.out ?_
          simp only [Act.put, List.setIfInBounds_toArray, List.set_cons_zero, List.set_cons_succ]
          refine wpAnyH_take (i := 26) (oi := { dst := some 113, op := Op.binOp BinOp.neq 3 (Operand.tmp 110) (Operand.tmp 112) 3, type := 4, pos := "law.go:61", after := #[{ on := 23, ground := Ground.data }, { on := 25, ground := Ground.data }, { on := 22, ground := Ground.guard }], guard := some (22, true) }) (v := undef) rfl (by kernel_rfl) (by kernel_rfl) (by kernel_rfl) (fun _ _ _ h => h) (Or.inr ⟨by rfl, rfl⟩) E0.out ?_
          simp only [Act.put, List.setIfInBounds_toArray, List.set_cons_zero, List.set_cons_succ]
          refine wpAnyH_take (i := 27) (oi := { dst := some 114, op := Op.pick (Operand.tmp 109) (Operand.tmp 113) (Operand.const (Value.bool false)), type := 4, pos := "law.go:61", after := #[{ on := 22, ground := Ground.data }, { on := 26, ground := Ground.data }], guard := none }) (v := ?_) rfl (by kernel_rfl) (by kernel_rfl) (by kernel_rfl) (fun _ _ _ h => h) (Or.inl ⟨by rfl, ?_⟩) E0.out ?_
          rotate_left
          · (intro w1 hS; go_simp; try with_reducible rfl)
          simp only [Act.put, List.setIfInBounds_toArray, List.set_cons_zero, List.set_cons_succ]
          refine wpAnyH_done (by kernel_rfl) ?_ _
          have hy := E0.out
          replace KL := Lib.hid (KL.out.trans (hy.mono KL.out.size))
          clear hy E0
          go_wp2
          go_roundw
          case rel => exact ⟨3 + 1, by omega, by go_num, KL⟩
          case measure => simp [RowKit.intOf]; omega
        · have hj1 : (16 : Int) < (nn : Int) := by omega
          have hj0 : (0 : Int) ≤ 16 := by omega
          refine wp_region_held (S := (fun w' : World => Below (wr.heap.size) wr w')) (by kernel_rfl) ?_
          change wpAnyH _ _ _ _ _ _ _ _ wr.drew
          have hy : Below wr.heap.size wr wr.drew := (Below.refl _ _).drew
          have hE0 : Below (wr.heap.size) wr wr.drew := (Below.refl _ _).drew
          clear hy
          generalize wr.drew = Y14x0 at hE0  ⊢
          have E0 := Lib.hid hE0
          clear hE0
          refine wpAnyH_take (i := 0) (oi := { dst := some 87, op := Op.move (Operand.tmp 17), type := 22, pos := "law.go:61", after := #[], guard := none }) (v := ?_) rfl (by kernel_rfl) (by kernel_rfl) (by kernel_rfl) (fun _ _ _ h => h) (Or.inl ⟨by rfl, ?_⟩) E0.out ?_
          rotate_left
          · (intro w1 hS; go_simp; try with_reducible rfl)
          simp only [Act.put, List.setIfInBounds_toArray, List.set_cons_zero, List.set_cons_succ]
          refine wpAnyH_take (i := 1) (oi := { dst := some 88, op := Op.move (Operand.tmp 20), type := 3, pos := "law.go:61", after := #[], guard := none }) (v := ?_) rfl (by kernel_rfl) (by kernel_rfl) (by kernel_rfl) (fun _ _ _ h => h) (Or.inl ⟨by rfl, ?_⟩) E0.out ?_
          rotate_left
          · (intro w1 hS; go_simp; try with_reducible rfl)
          simp only [Act.put, List.setIfInBounds_toArray, List.set_cons_zero, List.set_cons_succ]
          refine wpAnyH_take (i := 2) (oi := { dst := some 89, op := Op.indexAddr 22 (Operand.tmp 87) (Operand.tmp 88), type := 0, pos := "law.go:61", after := #[{ on := 0, ground := Ground.data }, { on := 1, ground := Ground.data }], guard := none }) (v := ?_) rfl (by kernel_rfl) (by kernel_rfl) (by kernel_rfl) (fun _ _ _ h => h) (Or.inl ⟨by rfl, ?_⟩) E0.out ?_
          rotate_left
          · (intro w1 hS; go_simp; try with_reducible rfl)
          simp only [Act.put, List.setIfInBounds_toArray, List.set_cons_zero, List.set_cons_succ]
          refine wpAnyH_take (i := 3) (oi := { dst := some 90, op := Op.load 5 (Operand.tmp 89), type := 5, pos := "law.go:61", after := #[{ on := 2, ground := Ground.data }], guard := none }) (v := ?_) rfl (by kernel_rfl) (by kernel_rfl) (by kernel_rfl) (fun _ _ _ h => h) (Or.inl ⟨by rfl, ?_⟩) E0.out ?_
          rotate_left
          · (intro w1 hS; have hW := hS; have q := (hW.cell (p := ⟨gb, ob + 16, none⟩) qb).trans CSx.out; clear hW hS; go_simp; try with_reducible rfl)
          simp only [Act.put, List.setIfInBounds_toArray, List.set_cons_zero, List.set_cons_succ]
          refine wpAnyH_take (i := 4) (oi := { dst := some 91, op := Op.move (Operand.tmp 18), type := 22, pos := "law.go:61", after := #[], guard := none }) (v := ?_) rfl (by kernel_rfl) (by kernel_rfl) (by kernel_rfl) (fun _ _ _ h => h) (Or.inl ⟨by rfl, ?_⟩) E0.out ?_
          rotate_left
          · (intro w1 hS; go_simp; try with_reducible rfl)
          simp only [Act.put, List.setIfInBounds_toArray, List.set_cons_zero, List.set_cons_succ]
          refine wpAnyH_take (i := 5) (oi := { dst := some 92, op := Op.move (Operand.tmp 20), type := 3, pos := "law.go:61", after := #[], guard := none }) (v := ?_) rfl (by kernel_rfl) (by kernel_rfl) (by kernel_rfl) (fun _ _ _ h => h) (Or.inl ⟨by rfl, ?_⟩) E0.out ?_
          rotate_left
          · (intro w1 hS; go_simp; try with_reducible rfl)
          simp only [Act.put, List.setIfInBounds_toArray, List.set_cons_zero, List.set_cons_succ]
          refine wpAnyH_take (i := 6) (oi := { dst := some 93, op := Op.indexAddr 22 (Operand.tmp 91) (Operand.tmp 92), type := 0, pos := "law.go:61", after := #[{ on := 4, ground := Ground.data }, { on := 5, ground := Ground.data }], guard := none }) (v := ?_) rfl (by kernel_rfl) (by kernel_rfl) (by kernel_rfl) (fun _ _ _ h => h) (Or.inl ⟨by rfl, ?_⟩) E0.out ?_
          rotate_left
          · (intro w1 hS; go_simp; try with_reducible rfl)
          simp only [Act.put, List.setIfInBounds_toArray, List.set_cons_zero, List.set_cons_succ]
          refine wpAnyH_take (i := 7) (oi := { dst := some 94, op := Op.load 5 (Operand.tmp 93), type := 5, pos := "law.go:61", after := #[{ on := 6, ground := Ground.data }], guard := none }) (v := ?_) rfl (by kernel_rfl) (by kernel_rfl) (by kernel_rfl) (fun _ _ _ h => h) (Or.inl ⟨by rfl, ?_⟩) E0.out ?_
          rotate_left
          · (intro w1 hS; have hW := hS; have q := (hW.cell (p := ⟨gc, oc + 16, none⟩) qc).trans CCx.out; clear hW hS; go_simp; try with_reducible rfl)
          simp only [Act.put, List.setIfInBounds_toArray, List.set_cons_zero, List.set_cons_succ]
          refine wpAnyH_take (i := 8) (oi := { dst := some 95, op := Op.binOp BinOp.neq 5 (Operand.tmp 90) (Operand.tmp 94) 5, type := 4, pos := "law.go:61", after := #[{ on := 3, ground := Ground.data }, { on := 7, ground := Ground.data }], guard := none }) (v := ?_) rfl (by kernel_rfl) (by kernel_rfl) (by kernel_rfl) (fun _ _ _ h => h) (Or.inl ⟨by rfl, ?_⟩) E0.out ?_
          rotate_left
          · (intro w1 hS; go_simp; try with_reducible rfl)
          simp only [Act.put, List.setIfInBounds_toArray, List.set_cons_zero, List.set_cons_succ]
          refine wpAnyH_take (i := 9) (oi := { dst := some 96, op := Op.move (Operand.tmp 95), type := 4, pos := "law.go:61", after := #[{ on := 8, ground := Ground.data }], guard := none }) (v := ?_) rfl (by kernel_rfl) (by kernel_rfl) (by kernel_rfl) (fun _ _ _ h => h) (Or.inl ⟨by rfl, ?_⟩) E0.out ?_
          rotate_left
          · (intro w1 hS; go_simp; try with_reducible rfl)
          simp only [Act.put, List.setIfInBounds_toArray, List.set_cons_zero, List.set_cons_succ]
          refine wpAnyH_take (i := 10) (oi := { dst := some 97, op := Op.move (Operand.tmp 20), type := 3, pos := "law.go:61", after := #[{ on := 9, ground := Ground.guard }], guard := some (9, true) }) (v := ?_) rfl (by kernel_rfl) (by kernel_rfl) (by kernel_rfl) (fun _ _ _ h => h) (Or.inl ⟨by rfl, ?_⟩) E0.out ?_
          rotate_left
          · (intro w1 hS; go_simp; try with_reducible rfl)
          simp only [Act.put, List.setIfInBounds_toArray, List.set_cons_zero, List.set_cons_succ]
          refine wpAnyH_take (i := 11) (oi := { dst := some 98, op := Op.binOp BinOp.neq 3 (Operand.tmp 97) (Operand.const (Value.int IntKind.i64 2)) 3, type := 4, pos := "law.go:61", after := #[{ on := 10, ground := Ground.data }, { on := 9, ground := Ground.guard }], guard := some (9, true) }) (v := ?_) rfl (by kernel_rfl) (by kernel_rfl) (by kernel_rfl) (fun _ _ _ h => h) (Or.inl ⟨by rfl, ?_⟩) E0.out ?_
          rotate_left
          · (intro w1 hS; go_simp; try with_reducible rfl)
          simp only [Act.put, List.setIfInBounds_toArray, List.set_cons_zero, List.set_cons_succ]
          refine wpAnyH_take (i := 12) (oi := { dst := some 99, op := Op.pick (Operand.tmp 96) (Operand.tmp 98) (Operand.const (Value.bool false)), type := 4, pos := "law.go:61", after := #[{ on := 9, ground := Ground.data }, { on := 11, ground := Ground.data }], guard := none }) (v := ?_) rfl (by kernel_rfl) (by kernel_rfl) (by kernel_rfl) (fun _ _ _ h => h) (Or.inl ⟨by rfl, ?_⟩) E0.out ?_
          rotate_left
          · (intro w1 hS; go_simp; try with_reducible rfl)
          simp only [Act.put, List.setIfInBounds_toArray, List.set_cons_zero, List.set_cons_succ]
          refine wpAnyH_take (i := 13) (oi := { dst := some 100, op := Op.move (Operand.tmp 99), type := 4, pos := "law.go:61", after := #[{ on := 12, ground := Ground.data }, { on := 9, ground := Ground.chain }], guard := none }) (v := ?_) rfl (by kernel_rfl) (by kernel_rfl) (by kernel_rfl) (fun _ _ _ h => h) (Or.inl ⟨by rfl, ?_⟩) E0.out ?_
          rotate_left
          · (intro w1 hS; go_simp; try with_reducible rfl)
          simp only [Act.put, List.setIfInBounds_toArray, List.set_cons_zero, List.set_cons_succ]
          refine wpAnyH_take (i := 14) (oi := { dst := some 101, op := Op.move (Operand.tmp 20), type := 3, pos := "law.go:61", after := #[{ on := 13, ground := Ground.guard }], guard := some (13, true) }) (v := ?_) rfl (by kernel_rfl) (by kernel_rfl) (by kernel_rfl) (fun _ _ _ h => h) (Or.inl ⟨by rfl, ?_⟩) E0.out ?_
          rotate_left
          · (intro w1 hS; go_simp; try with_reducible rfl)
          simp only [Act.put, List.setIfInBounds_toArray, List.set_cons_zero, List.set_cons_succ]
          refine wpAnyH_take (i := 15) (oi := { dst := some 102, op := Op.binOp BinOp.neq 3 (Operand.tmp 101) (Operand.const (Value.int IntKind.i64 3)) 3, type := 4, pos := "law.go:61", after := #[{ on := 14, ground := Ground.data }, { on := 13, ground := Ground.guard }], guard := some (13, true) }) (v := ?_) rfl (by kernel_rfl) (by kernel_rfl) (by kernel_rfl) (fun _ _ _ h => h) (Or.inl ⟨by rfl, ?_⟩) E0.out ?_
          rotate_left
          · (intro w1 hS; go_simp; try with_reducible rfl)
          simp only [Act.put, List.setIfInBounds_toArray, List.set_cons_zero, List.set_cons_succ]
          refine wpAnyH_take (i := 16) (oi := { dst := some 103, op := Op.pick (Operand.tmp 100) (Operand.tmp 102) (Operand.const (Value.bool false)), type := 4, pos := "law.go:61", after := #[{ on := 13, ground := Ground.data }, { on := 15, ground := Ground.data }], guard := none }) (v := ?_) rfl (by kernel_rfl) (by kernel_rfl) (by kernel_rfl) (fun _ _ _ h => h) (Or.inl ⟨by rfl, ?_⟩) E0.out ?_
          rotate_left
          · (intro w1 hS; go_simp; try with_reducible rfl)
          simp only [Act.put, List.setIfInBounds_toArray, List.set_cons_zero, List.set_cons_succ]
          refine wpAnyH_take (i := 17) (oi := { dst := some 104, op := Op.move (Operand.tmp 103), type := 4, pos := "law.go:61", after := #[{ on := 16, ground := Ground.data }, { on := 13, ground := Ground.chain }], guard := none }) (v := ?_) rfl (by kernel_rfl) (by kernel_rfl) (by kernel_rfl) (fun _ _ _ h => h) (Or.inl ⟨by rfl, ?_⟩) E0.out ?_
          rotate_left
          · (intro w1 hS; go_simp; try with_reducible rfl)
          simp only [Act.put, List.setIfInBounds_toArray, List.set_cons_zero, List.set_cons_succ]
          refine wpAnyH_take (i := 18) (oi := { dst := some 105, op := Op.move (Operand.tmp 20), type := 3, pos := "law.go:61", after := #[{ on := 17, ground := Ground.guard }], guard := some (17, true) }) (v := ?_) rfl (by kernel_rfl) (by kernel_rfl) (by kernel_rfl) (fun _ _ _ h => h) (Or.inl ⟨by rfl, ?_⟩) E0.out ?_
          rotate_left
          · (intro w1 hS; go_simp; try with_reducible rfl)
          simp only [Act.put, List.setIfInBounds_toArray, List.set_cons_zero, List.set_cons_succ]
          refine wpAnyH_take (i := 19) (oi := { dst := some 106, op := Op.move (Operand.tmp 19), type := 3, pos := "law.go:61", after := #[{ on := 17, ground := Ground.guard }], guard := some (17, true) }) (v := ?_) rfl (by kernel_rfl) (by kernel_rfl) (by kernel_rfl) (fun _ _ _ h => h) (Or.inl ⟨by rfl, ?_⟩) E0.out ?_
          rotate_left
          · (intro w1 hS; go_simp; try with_reducible rfl)
          simp only [Act.put, List.setIfInBounds_toArray, List.set_cons_zero, List.set_cons_succ]
          refine wpAnyH_take (i := 20) (oi := { dst := some 107, op := Op.binOp BinOp.neq 3 (Operand.tmp 105) (Operand.tmp 106) 3, type := 4, pos := "law.go:61", after := #[{ on := 18, ground := Ground.data }, { on := 19, ground := Ground.data }, { on := 17, ground := Ground.guard }], guard := some (17, true) }) (v := ?_) rfl (by kernel_rfl) (by kernel_rfl) (by kernel_rfl) (fun _ _ _ h => h) (Or.inl ⟨by rfl, ?_⟩) E0.out ?_
          rotate_left
          · (intro w1 hS; go_simp; try with_reducible rfl)
          simp only [Act.put, List.setIfInBounds_toArray, List.set_cons_zero, List.set_cons_succ]
          refine wpAnyH_take (i := 21) (oi := { dst := some 108, op := Op.pick (Operand.tmp 104) (Operand.tmp 107) (Operand.const (Value.bool false)), type := 4, pos := "law.go:61", after := #[{ on := 17, ground := Ground.data }, { on := 20, ground := Ground.data }], guard := none }) (v := ?_) rfl (by kernel_rfl) (by kernel_rfl) (by kernel_rfl) (fun _ _ _ h => h) (Or.inl ⟨by rfl, ?_⟩) E0.out ?_
          rotate_left
          · (intro w1 hS; go_simp; try with_reducible rfl)
          simp only [Act.put, List.setIfInBounds_toArray, List.set_cons_zero, List.set_cons_succ]
          refine wpAnyH_take (i := 22) (oi := { dst := some 109, op := Op.move (Operand.tmp 108), type := 4, pos := "law.go:61", after := #[{ on := 21, ground := Ground.data }, { on := 17, ground := Ground.chain }], guard := none }) (v := ?_) rfl (by kernel_rfl) (by kernel_rfl) (by kernel_rfl) (fun _ _ _ h => h) (Or.inl ⟨by rfl, ?_⟩) E0.out ?_
          rotate_left
          · (intro w1 hS; go_simp; try with_reducible rfl)
          simp only [Act.put, List.setIfInBounds_toArray, List.set_cons_zero, List.set_cons_succ]
          refine wpAnyH_take (i := 23) (oi := { dst := some 110, op := Op.move (Operand.tmp 20), type := 3, pos := "law.go:61", after := #[{ on := 22, ground := Ground.guard }], guard := some (22, true) }) (v := undef) rfl (by kernel_rfl) (by kernel_rfl) (by kernel_rfl) (fun _ _ _ h => h) (Or.inr ⟨by rfl, rfl⟩) E0.out ?_
          simp only [Act.put, List.setIfInBounds_toArray, List.set_cons_zero, List.set_cons_succ]
          refine wpAnyH_take (i := 24) (oi := { dst := some 111, op := Op.move (Operand.tmp 19), type := 3, pos := "law.go:61", after := #[{ on := 22, ground := Ground.guard }], guard := some (22, true) }) (v := undef) rfl (by kernel_rfl) (by kernel_rfl) (by kernel_rfl) (fun _ _ _ h => h) (Or.inr ⟨by rfl, rfl⟩) E0.out ?_
          simp only [Act.put, List.setIfInBounds_toArray, List.set_cons_zero, List.set_cons_succ]
          refine wpAnyH_take (i := 25) (oi := { dst := some 112, op := Op.binOp BinOp.add 3 (Operand.tmp 111) (Operand.const (Value.int IntKind.i64 1)) 3, type := 3, pos := "law.go:61", after := #[{ on := 24, ground := Ground.data }, { on := 22, ground := Ground.guard }], guard := some (22, true) }) (v := undef) rfl (by kernel_rfl) (by kernel_rfl) (by kernel_rfl) (fun _ _ _ h => h) (Or.inr ⟨by rfl, rfl⟩) E0.out ?_
          simp only [Act.put, List.setIfInBounds_toArray, List.set_cons_zero, List.set_cons_succ]
          refine wpAnyH_take (i := 26) (oi := { dst := some 113, op := Op.binOp BinOp.neq 3 (Operand.tmp 110) (Operand.tmp 112) 3, type := 4, pos := "law.go:61", after := #[{ on := 23, ground := Ground.data }, { on := 25, ground := Ground.data }, { on := 22, ground := Ground.guard }], guard := some (22, true) }) (v := undef) rfl (by kernel_rfl) (by kernel_rfl) (by kernel_rfl) (fun _ _ _ h => h) (Or.inr ⟨by rfl, rfl⟩) E0.out ?_
          simp only [Act.put, List.setIfInBounds_toArray, List.set_cons_zero, List.set_cons_succ]
          refine wpAnyH_take (i := 27) (oi := { dst := some 114, op := Op.pick (Operand.tmp 109) (Operand.tmp 113) (Operand.const (Value.bool false)), type := 4, pos := "law.go:61", after := #[{ on := 22, ground := Ground.data }, { on := 26, ground := Ground.data }], guard := none }) (v := ?_) rfl (by kernel_rfl) (by kernel_rfl) (by kernel_rfl) (fun _ _ _ h => h) (Or.inl ⟨by rfl, ?_⟩) E0.out ?_
          rotate_left
          · (intro w1 hS; go_simp; try with_reducible rfl)
          simp only [Act.put, List.setIfInBounds_toArray, List.set_cons_zero, List.set_cons_succ]
          refine wpAnyH_done (by kernel_rfl) ?_ _
          have hy := E0.out
          replace KL := Lib.hid (KL.out.trans (hy.mono KL.out.size))
          clear hy E0
          go_wp2
          go_roundw
          case rel => exact ⟨16 + 1, by omega, by go_num, KL⟩
          case measure => simp [RowKit.intOf]; omega
        · have hj1 : (17 : Int) < (nn : Int) := by omega
          have hj0 : (0 : Int) ≤ 17 := by omega
          refine wp_region_held (S := (fun w' : World => Below (wr.heap.size) wr w')) (by kernel_rfl) ?_
          change wpAnyH _ _ _ _ _ _ _ _ wr.drew
          have hy : Below wr.heap.size wr wr.drew := (Below.refl _ _).drew
          have hE0 : Below (wr.heap.size) wr wr.drew := (Below.refl _ _).drew
          clear hy
          generalize wr.drew = Y14x0 at hE0  ⊢
          have E0 := Lib.hid hE0
          clear hE0
          refine wpAnyH_take (i := 0) (oi := { dst := some 87, op := Op.move (Operand.tmp 17), type := 22, pos := "law.go:61", after := #[], guard := none }) (v := ?_) rfl (by kernel_rfl) (by kernel_rfl) (by kernel_rfl) (fun _ _ _ h => h) (Or.inl ⟨by rfl, ?_⟩) E0.out ?_
          rotate_left
          · (intro w1 hS; go_simp; try with_reducible rfl)
          simp only [Act.put, List.setIfInBounds_toArray, List.set_cons_zero, List.set_cons_succ]
          refine wpAnyH_take (i := 1) (oi := { dst := some 88, op := Op.move (Operand.tmp 20), type := 3, pos := "law.go:61", after := #[], guard := none }) (v := ?_) rfl (by kernel_rfl) (by kernel_rfl) (by kernel_rfl) (fun _ _ _ h => h) (Or.inl ⟨by rfl, ?_⟩) E0.out ?_
          rotate_left
          · (intro w1 hS; go_simp; try with_reducible rfl)
          simp only [Act.put, List.setIfInBounds_toArray, List.set_cons_zero, List.set_cons_succ]
          refine wpAnyH_take (i := 2) (oi := { dst := some 89, op := Op.indexAddr 22 (Operand.tmp 87) (Operand.tmp 88), type := 0, pos := "law.go:61", after := #[{ on := 0, ground := Ground.data }, { on := 1, ground := Ground.data }], guard := none }) (v := ?_) rfl (by kernel_rfl) (by kernel_rfl) (by kernel_rfl) (fun _ _ _ h => h) (Or.inl ⟨by rfl, ?_⟩) E0.out ?_
          rotate_left
          · (intro w1 hS; go_simp; try with_reducible rfl)
          simp only [Act.put, List.setIfInBounds_toArray, List.set_cons_zero, List.set_cons_succ]
          refine wpAnyH_take (i := 3) (oi := { dst := some 90, op := Op.load 5 (Operand.tmp 89), type := 5, pos := "law.go:61", after := #[{ on := 2, ground := Ground.data }], guard := none }) (v := ?_) rfl (by kernel_rfl) (by kernel_rfl) (by kernel_rfl) (fun _ _ _ h => h) (Or.inl ⟨by rfl, ?_⟩) E0.out ?_
          rotate_left
          · (intro w1 hS; have hW := hS; have q := (hW.cell (p := ⟨gb, ob + 17, none⟩) qb).trans CSx.out; clear hW hS; go_simp; try with_reducible rfl)
          simp only [Act.put, List.setIfInBounds_toArray, List.set_cons_zero, List.set_cons_succ]
          refine wpAnyH_take (i := 4) (oi := { dst := some 91, op := Op.move (Operand.tmp 18), type := 22, pos := "law.go:61", after := #[], guard := none }) (v := ?_) rfl (by kernel_rfl) (by kernel_rfl) (by kernel_rfl) (fun _ _ _ h => h) (Or.inl ⟨by rfl, ?_⟩) E0.out ?_
          rotate_left
          · (intro w1 hS; go_simp; try with_reducible rfl)
          simp only [Act.put, List.setIfInBounds_toArray, List.set_cons_zero, List.set_cons_succ]
          refine wpAnyH_take (i := 5) (oi := { dst := some 92, op := Op.move (Operand.tmp 20), type := 3, pos := "law.go:61", after := #[], guard := none }) (v := ?_) rfl (by kernel_rfl) (by kernel_rfl) (by kernel_rfl) (fun _ _ _ h => h) (Or.inl ⟨by rfl, ?_⟩) E0.out ?_
          rotate_left
          · (intro w1 hS; go_simp; try with_reducible rfl)
          simp only [Act.put, List.setIfInBounds_toArray, List.set_cons_zero, List.set_cons_succ]
          refine wpAnyH_take (i := 6) (oi := { dst := some 93, op := Op.indexAddr 22 (Operand.tmp 91) (Operand.tmp 92), type := 0, pos := "law.go:61", after := #[{ on := 4, ground := Ground.data }, { on := 5, ground := Ground.data }], guard := none }) (v := ?_) rfl (by kernel_rfl) (by kernel_rfl) (by kernel_rfl) (fun _ _ _ h => h) (Or.inl ⟨by rfl, ?_⟩) E0.out ?_
          rotate_left
          · (intro w1 hS; go_simp; try with_reducible rfl)
          simp only [Act.put, List.setIfInBounds_toArray, List.set_cons_zero, List.set_cons_succ]
          refine wpAnyH_take (i := 7) (oi := { dst := some 94, op := Op.load 5 (Operand.tmp 93), type := 5, pos := "law.go:61", after := #[{ on := 6, ground := Ground.data }], guard := none }) (v := ?_) rfl (by kernel_rfl) (by kernel_rfl) (by kernel_rfl) (fun _ _ _ h => h) (Or.inl ⟨by rfl, ?_⟩) E0.out ?_
          rotate_left
          · (intro w1 hS; have hW := hS; have q := (hW.cell (p := ⟨gc, oc + 17, none⟩) qc).trans CCx.out; clear hW hS; go_simp; try with_reducible rfl)
          simp only [Act.put, List.setIfInBounds_toArray, List.set_cons_zero, List.set_cons_succ]
          refine wpAnyH_take (i := 8) (oi := { dst := some 95, op := Op.binOp BinOp.neq 5 (Operand.tmp 90) (Operand.tmp 94) 5, type := 4, pos := "law.go:61", after := #[{ on := 3, ground := Ground.data }, { on := 7, ground := Ground.data }], guard := none }) (v := ?_) rfl (by kernel_rfl) (by kernel_rfl) (by kernel_rfl) (fun _ _ _ h => h) (Or.inl ⟨by rfl, ?_⟩) E0.out ?_
          rotate_left
          · (intro w1 hS; go_simp; try with_reducible rfl)
          simp only [Act.put, List.setIfInBounds_toArray, List.set_cons_zero, List.set_cons_succ]
          refine wpAnyH_take (i := 9) (oi := { dst := some 96, op := Op.move (Operand.tmp 95), type := 4, pos := "law.go:61", after := #[{ on := 8, ground := Ground.data }], guard := none }) (v := ?_) rfl (by kernel_rfl) (by kernel_rfl) (by kernel_rfl) (fun _ _ _ h => h) (Or.inl ⟨by rfl, ?_⟩) E0.out ?_
          rotate_left
          · (intro w1 hS; go_simp; try with_reducible rfl)
          simp only [Act.put, List.setIfInBounds_toArray, List.set_cons_zero, List.set_cons_succ]
          refine wpAnyH_take (i := 10) (oi := { dst := some 97, op := Op.move (Operand.tmp 20), type := 3, pos := "law.go:61", after := #[{ on := 9, ground := Ground.guard }], guard := some (9, true) }) (v := ?_) rfl (by kernel_rfl) (by kernel_rfl) (by kernel_rfl) (fun _ _ _ h => h) (Or.inl ⟨by rfl, ?_⟩) E0.out ?_
          rotate_left
          · (intro w1 hS; go_simp; try with_reducible rfl)
          simp only [Act.put, List.setIfInBounds_toArray, List.set_cons_zero, List.set_cons_succ]
          refine wpAnyH_take (i := 11) (oi := { dst := some 98, op := Op.binOp BinOp.neq 3 (Operand.tmp 97) (Operand.const (Value.int IntKind.i64 2)) 3, type := 4, pos := "law.go:61", after := #[{ on := 10, ground := Ground.data }, { on := 9, ground := Ground.guard }], guard := some (9, true) }) (v := ?_) rfl (by kernel_rfl) (by kernel_rfl) (by kernel_rfl) (fun _ _ _ h => h) (Or.inl ⟨by rfl, ?_⟩) E0.out ?_
          rotate_left
          · (intro w1 hS; go_simp; try with_reducible rfl)
          simp only [Act.put, List.setIfInBounds_toArray, List.set_cons_zero, List.set_cons_succ]
          refine wpAnyH_take (i := 12) (oi := { dst := some 99, op := Op.pick (Operand.tmp 96) (Operand.tmp 98) (Operand.const (Value.bool false)), type := 4, pos := "law.go:61", after := #[{ on := 9, ground := Ground.data }, { on := 11, ground := Ground.data }], guard := none }) (v := ?_) rfl (by kernel_rfl) (by kernel_rfl) (by kernel_rfl) (fun _ _ _ h => h) (Or.inl ⟨by rfl, ?_⟩) E0.out ?_
          rotate_left
          · (intro w1 hS; go_simp; try with_reducible rfl)
          simp only [Act.put, List.setIfInBounds_toArray, List.set_cons_zero, List.set_cons_succ]
          refine wpAnyH_take (i := 13) (oi := { dst := some 100, op := Op.move (Operand.tmp 99), type := 4, pos := "law.go:61", after := #[{ on := 12, ground := Ground.data }, { on := 9, ground := Ground.chain }], guard := none }) (v := ?_) rfl (by kernel_rfl) (by kernel_rfl) (by kernel_rfl) (fun _ _ _ h => h) (Or.inl ⟨by rfl, ?_⟩) E0.out ?_
          rotate_left
          · (intro w1 hS; go_simp; try with_reducible rfl)
          simp only [Act.put, List.setIfInBounds_toArray, List.set_cons_zero, List.set_cons_succ]
          refine wpAnyH_take (i := 14) (oi := { dst := some 101, op := Op.move (Operand.tmp 20), type := 3, pos := "law.go:61", after := #[{ on := 13, ground := Ground.guard }], guard := some (13, true) }) (v := ?_) rfl (by kernel_rfl) (by kernel_rfl) (by kernel_rfl) (fun _ _ _ h => h) (Or.inl ⟨by rfl, ?_⟩) E0.out ?_
          rotate_left
          · (intro w1 hS; go_simp; try with_reducible rfl)
          simp only [Act.put, List.setIfInBounds_toArray, List.set_cons_zero, List.set_cons_succ]
          refine wpAnyH_take (i := 15) (oi := { dst := some 102, op := Op.binOp BinOp.neq 3 (Operand.tmp 101) (Operand.const (Value.int IntKind.i64 3)) 3, type := 4, pos := "law.go:61", after := #[{ on := 14, ground := Ground.data }, { on := 13, ground := Ground.guard }], guard := some (13, true) }) (v := ?_) rfl (by kernel_rfl) (by kernel_rfl) (by kernel_rfl) (fun _ _ _ h => h) (Or.inl ⟨by rfl, ?_⟩) E0.out ?_
          rotate_left
          · (intro w1 hS; go_simp; try with_reducible rfl)
          simp only [Act.put, List.setIfInBounds_toArray, List.set_cons_zero, List.set_cons_succ]
          refine wpAnyH_take (i := 16) (oi := { dst := some 103, op := Op.pick (Operand.tmp 100) (Operand.tmp 102) (Operand.const (Value.bool false)), type := 4, pos := "law.go:61", after := #[{ on := 13, ground := Ground.data }, { on := 15, ground := Ground.data }], guard := none }) (v := ?_) rfl (by kernel_rfl) (by kernel_rfl) (by kernel_rfl) (fun _ _ _ h => h) (Or.inl ⟨by rfl, ?_⟩) E0.out ?_
          rotate_left
          · (intro w1 hS; go_simp; try with_reducible rfl)
          simp only [Act.put, List.setIfInBounds_toArray, List.set_cons_zero, List.set_cons_succ]
          refine wpAnyH_take (i := 17) (oi := { dst := some 104, op := Op.move (Operand.tmp 103), type := 4, pos := "law.go:61", after := #[{ on := 16, ground := Ground.data }, { on := 13, ground := Ground.chain }], guard := none }) (v := ?_) rfl (by kernel_rfl) (by kernel_rfl) (by kernel_rfl) (fun _ _ _ h => h) (Or.inl ⟨by rfl, ?_⟩) E0.out ?_
          rotate_left
          · (intro w1 hS; go_simp; try with_reducible rfl)
          simp only [Act.put, List.setIfInBounds_toArray, List.set_cons_zero, List.set_cons_succ]
          refine wpAnyH_take (i := 18) (oi := { dst := some 105, op := Op.move (Operand.tmp 20), type := 3, pos := "law.go:61", after := #[{ on := 17, ground := Ground.guard }], guard := some (17, true) }) (v := ?_) rfl (by kernel_rfl) (by kernel_rfl) (by kernel_rfl) (fun _ _ _ h => h) (Or.inl ⟨by rfl, ?_⟩) E0.out ?_
          rotate_left
          · (intro w1 hS; go_simp; try with_reducible rfl)
          simp only [Act.put, List.setIfInBounds_toArray, List.set_cons_zero, List.set_cons_succ]
          refine wpAnyH_take (i := 19) (oi := { dst := some 106, op := Op.move (Operand.tmp 19), type := 3, pos := "law.go:61", after := #[{ on := 17, ground := Ground.guard }], guard := some (17, true) }) (v := ?_) rfl (by kernel_rfl) (by kernel_rfl) (by kernel_rfl) (fun _ _ _ h => h) (Or.inl ⟨by rfl, ?_⟩) E0.out ?_
          rotate_left
          · (intro w1 hS; go_simp; try with_reducible rfl)
          simp only [Act.put, List.setIfInBounds_toArray, List.set_cons_zero, List.set_cons_succ]
          refine wpAnyH_take (i := 20) (oi := { dst := some 107, op := Op.binOp BinOp.neq 3 (Operand.tmp 105) (Operand.tmp 106) 3, type := 4, pos := "law.go:61", after := #[{ on := 18, ground := Ground.data }, { on := 19, ground := Ground.data }, { on := 17, ground := Ground.guard }], guard := some (17, true) }) (v := ?_) rfl (by kernel_rfl) (by kernel_rfl) (by kernel_rfl) (fun _ _ _ h => h) (Or.inl ⟨by rfl, ?_⟩) E0.out ?_
          rotate_left
          · (intro w1 hS; go_simp; try with_reducible rfl)
          simp only [Act.put, List.setIfInBounds_toArray, List.set_cons_zero, List.set_cons_succ]
          refine wpAnyH_take (i := 21) (oi := { dst := some 108, op := Op.pick (Operand.tmp 104) (Operand.tmp 107) (Operand.const (Value.bool false)), type := 4, pos := "law.go:61", after := #[{ on := 17, ground := Ground.data }, { on := 20, ground := Ground.data }], guard := none }) (v := ?_) rfl (by kernel_rfl) (by kernel_rfl) (by kernel_rfl) (fun _ _ _ h => h) (Or.inl ⟨by rfl, ?_⟩) E0.out ?_
          rotate_left
          · (intro w1 hS; go_simp; try with_reducible rfl)
          simp only [Act.put, List.setIfInBounds_toArray, List.set_cons_zero, List.set_cons_succ]
          refine wpAnyH_take (i := 22) (oi := { dst := some 109, op := Op.move (Operand.tmp 108), type := 4, pos := "law.go:61", after := #[{ on := 21, ground := Ground.data }, { on := 17, ground := Ground.chain }], guard := none }) (v := ?_) rfl (by kernel_rfl) (by kernel_rfl) (by kernel_rfl) (fun _ _ _ h => h) (Or.inl ⟨by rfl, ?_⟩) E0.out ?_
          rotate_left
          · (intro w1 hS; go_simp; try with_reducible rfl)
          simp only [Act.put, List.setIfInBounds_toArray, List.set_cons_zero, List.set_cons_succ]
          refine wpAnyH_take (i := 23) (oi := { dst := some 110, op := Op.move (Operand.tmp 20), type := 3, pos := "law.go:61", after := #[{ on := 22, ground := Ground.guard }], guard := some (22, true) }) (v := ?_) rfl (by kernel_rfl) (by kernel_rfl) (by kernel_rfl) (fun _ _ _ h => h) (Or.inl ⟨by rfl, ?_⟩) E0.out ?_
          rotate_left
          · (intro w1 hS; go_simp; try with_reducible rfl)
          simp only [Act.put, List.setIfInBounds_toArray, List.set_cons_zero, List.set_cons_succ]
          refine wpAnyH_take (i := 24) (oi := { dst := some 111, op := Op.move (Operand.tmp 19), type := 3, pos := "law.go:61", after := #[{ on := 22, ground := Ground.guard }], guard := some (22, true) }) (v := ?_) rfl (by kernel_rfl) (by kernel_rfl) (by kernel_rfl) (fun _ _ _ h => h) (Or.inl ⟨by rfl, ?_⟩) E0.out ?_
          rotate_left
          · (intro w1 hS; go_simp; try with_reducible rfl)
          simp only [Act.put, List.setIfInBounds_toArray, List.set_cons_zero, List.set_cons_succ]
          refine wpAnyH_take (i := 25) (oi := { dst := some 112, op := Op.binOp BinOp.add 3 (Operand.tmp 111) (Operand.const (Value.int IntKind.i64 1)) 3, type := 3, pos := "law.go:61", after := #[{ on := 24, ground := Ground.data }, { on := 22, ground := Ground.guard }], guard := some (22, true) }) (v := ?_) rfl (by kernel_rfl) (by kernel_rfl) (by kernel_rfl) (fun _ _ _ h => h) (Or.inl ⟨by rfl, ?_⟩) E0.out ?_
          rotate_left
          · (intro w1 hS; go_simp; try with_reducible rfl)
          simp only [Act.put, List.setIfInBounds_toArray, List.set_cons_zero, List.set_cons_succ]
          refine wpAnyH_take (i := 26) (oi := { dst := some 113, op := Op.binOp BinOp.neq 3 (Operand.tmp 110) (Operand.tmp 112) 3, type := 4, pos := "law.go:61", after := #[{ on := 23, ground := Ground.data }, { on := 25, ground := Ground.data }, { on := 22, ground := Ground.guard }], guard := some (22, true) }) (v := ?_) rfl (by kernel_rfl) (by kernel_rfl) (by kernel_rfl) (fun _ _ _ h => h) (Or.inl ⟨by rfl, ?_⟩) E0.out ?_
          rotate_left
          · (intro w1 hS; go_simp; try with_reducible rfl)
          simp only [Act.put, List.setIfInBounds_toArray, List.set_cons_zero, List.set_cons_succ]
          refine wpAnyH_take (i := 27) (oi := { dst := some 114, op := Op.pick (Operand.tmp 109) (Operand.tmp 113) (Operand.const (Value.bool false)), type := 4, pos := "law.go:61", after := #[{ on := 22, ground := Ground.data }, { on := 26, ground := Ground.data }], guard := none }) (v := ?_) rfl (by kernel_rfl) (by kernel_rfl) (by kernel_rfl) (fun _ _ _ h => h) (Or.inl ⟨by rfl, ?_⟩) E0.out ?_
          rotate_left
          · (intro w1 hS; go_simp; try with_reducible rfl)
          simp only [Act.put, List.setIfInBounds_toArray, List.set_cons_zero, List.set_cons_succ]
          refine wpAnyH_done (by kernel_rfl) ?_ _
          have hy := E0.out
          replace KL := Lib.hid (KL.out.trans (hy.mono KL.out.size))
          clear hy E0
          go_wp2
          go_roundw
          case rel => exact ⟨17 + 1, by omega, by go_num, KL⟩
          case measure => simp [RowKit.intOf]; omega
    · obtain rfl : nn = j := by omega
      have hjd : decide (nn < nn) = false := decide_eq_false (by omega)
      clear hlt
      have hy := KL.out
      replace K := Lib.hid (K.out.trans (hy.mono K.out.size))
      replace NK := Lib.hid (NK.out.below hy NK.out.lt)
      replace ND := Lib.hid (ND.out.below hy ND.out.lt)
      replace R := Lib.hid (rd_keep R.out hy (rd_lt R.out (by omega)))
      clear hy KL HCS HCC RC
      have qRX := rd_lt R.out (by omega)
      have mNK := NK.out.lt
      have mND := ND.out.lt
      have mK := K.out.size
      go_upto_region 18 with fail
      have L := Lib.hid (Below.refl wr.heap.size wr)
      have hal := (Below.refl wr.heap.size wr).alloc (Nat.le_refl _) (.cells #[] 5)
      have O2 := Lib.hid (own_low (b1 := wr.heap.size) L.out.size (own_none wr 5))
      replace L := Lib.hid (L.out.trans (hal.mono L.out.size))
      clear hal
      go_wp2_with ((at_builtin; refine wpList_app rfl (.tmp 132) (.tmp 133) rfl wr.heap.size _ (0) [] rfl O2.out (some ⟨gb, ob, none⟩) (nn) (cb) SG rfl (R.out.below L.out) (by intro e; cases e) ?ap14b ?ap14c ?ap14d))
      case ap14b => omega
      case ap14c => first | exact L.out.size | (have q := L.out.size; simp only [World.size_alloc] at q; exact q)
      intro vx V91 oz gz
      replace L := Lib.hid (L.out.grown gz L.out.size (fun k e => by first | exact (O2.out.lt k e).1 | (cases e; first | exact Nat.le_refl _ | omega)))
      have oz : V91.ownsRow wr.heap.size 5 1 vx (nn) (nus .u8 (SG)) := by first | exact oz | simpa using oz
      replace O2 := Lib.hid oz
      obtain ⟨go, co, rfl, hco, hcom, hgo, hgou⟩ := own_at O2.out (by omega)
      clear oz gz
      have hy := L.out
      replace K := Lib.hid (K.out.trans (hy.mono K.out.size))
      replace NK := Lib.hid (NK.out.below hy NK.out.lt)
      replace ND := Lib.hid (ND.out.below hy ND.out.lt)
      replace R := Lib.hid (R.out.below hy)
      clear hy L
      go_wp2_with fail
      refine (CR.out _).mono ?_
      rintro e V92 ⟨rfl, rfl⟩
      have c2 := O2.out.cellAt ri (by omega)
      rw [nus_get _ _ _ (by rw [← HLS.out]; omega), ← HY2.out] at c2
      have f2 := O2.out.frozenAt ri
      have b2 : (0 : Int) ≤ (ri : Int) ∧ (ri : Int) < (nn : Int) := by omega
      go_upto_region 20 with fail
      rw [xv.out]
      have hst := O2.out.stored ri (.int .u8 (x2 : Int))
      rw [nus_set, eC2.out] at hst
      have gr : V91.grownBy (V91.setCell ⟨go, ri, none⟩ (.int .u8 (x2 : Int))) (some go) := hst.2
      have m3 : wr.heap.size ≤ V91.heap.size := by have q1 := own_in O2.out; omega
      have hB := (Below.refl wr.heap.size V91).grown gr m3 (fun k e => by cases e; exact hgo)
      replace O2 := Lib.hid hst.1
      replace K := Lib.hid (K.out.trans (hB.mono mK))
      replace NK := Lib.hid (NK.out.below hB mNK)
      replace ND := Lib.hid (ND.out.below hB mND)
      replace R := Lib.hid (rd_keep R.out hB qRX)
      clear c2 f2 b2 hst gr xv eC2 HY2
      generalize V91.setCell ⟨go, ri, none⟩ (.int .u8 (x2 : Int)) = V93 at K NK ND R O2 hB ⊢
      clear hB
      have OR := Lib.hid (Rd.own O2.out)
      have L15 := (NK.out.cell 0).trans kg0.out
      have L16 := (ND.out.cell 17).trans dg1.out
      have L17 : (loadVar 26 ⟨V2.heap.size, 18, none⟩).run Try.prog V93 = .ok (.agg D) V93 := by have h := run_part_load (P := Try.prog) 26 18 D.toList _ NK.out kp2.out Try.underlying26 rfl ID.out; rwa [Array.toArray_toList] at h
      replace L17 := Lib.hid L17
      have L18 : (loadVar 26 ⟨V2.heap.size + 1, 0, none⟩).run Try.prog V93 = .ok (.agg T) V93 := by have h := run_part_load (P := Try.prog) 26 0 T.toList _ ND.out dp0.out Try.underlying26 rfl IT.out; rwa [Array.toArray_toList] at h
      replace L18 := Lib.hid L18
      go_wp2_with (first | ((with_reducible refine wpList_load_want (op := ⟨some 148, .load 26 (.tmp 147), _, _, _, _⟩) ?wg17 26 (.tmp 147) ?wo17 ⟨V2.heap.size, 18, none⟩ ?wx17 (.agg D) L17.out ?_); (case wg17 => rfl); (case wo17 => rfl); (case wx17 => rfl)) | ((with_reducible refine wpList_load_want (op := ⟨some 150, .load 26 (.tmp 149), _, _, _, _⟩) ?wg18 26 (.tmp 149) ?wo18 ⟨V2.heap.size + 1, 0, none⟩ ?wx18 (.agg T) L18.out ?_); (case wg18 => rfl); (case wo18 => rfl); (case wx18 => rfl)))
      clear L15 L16 L17 L18
      refine (CE.out _ _ OR.out).mono ?_
      rintro e V94 ⟨ge, oe, ce, rfl, re, hy⟩
      replace K := Lib.hid (K.out.trans (hy.mono K.out.size))
      replace NK := Lib.hid (NK.out.below hy NK.out.lt)
      replace ND := Lib.hid (ND.out.below hy ND.out.lt)
      replace R := Lib.hid (R.out.below hy)
      replace OR := Lib.hid (OR.out.below hy)
      have RE := Lib.hid (re)
      clear re
      clear hy
      have L19 := (NK.out.cell 0).trans kg0.out
      have L20 : (loadVar 26 ⟨V2.heap.size, 1, none⟩).run Try.prog V94 = .ok (.agg S) V94 := by have h := run_part_load (P := Try.prog) 26 1 S.toList _ NK.out kp1.out Try.underlying26 rfl IS.out; rwa [Array.toArray_toList] at h
      replace L20 := Lib.hid L20
      have L21 : (loadVar 26 ⟨V2.heap.size, 18, none⟩).run Try.prog V94 = .ok (.agg D) V94 := by have h := run_part_load (P := Try.prog) 26 18 D.toList _ NK.out kp2.out Try.underlying26 rfl ID.out; rwa [Array.toArray_toList] at h
      replace L21 := Lib.hid L21
      go_wp2_with (first | ((with_reducible refine wpList_load_want (op := ⟨some 156, .load 26 (.tmp 155), _, _, _, _⟩) ?wg20 26 (.tmp 155) ?wo20 ⟨V2.heap.size, 1, none⟩ ?wx20 (.agg S) L20.out ?_); (case wg20 => rfl); (case wo20 => rfl); (case wx20 => rfl)) | ((with_reducible refine wpList_load_want (op := ⟨some 158, .load 26 (.tmp 157), _, _, _, _⟩) ?wg21 26 (.tmp 157) ?wo21 ⟨V2.heap.size, 18, none⟩ ?wx21 (.agg D) L21.out ?_); (case wg21 => rfl); (case wo21 => rfl); (case wx21 => rfl)))
      clear L19 L20 L21
      refine (CG3.out _ _ OR.out).mono ?_
      rintro e V95 ⟨rfl, hy⟩
      replace K := Lib.hid (K.out.trans (hy.mono K.out.size))
      replace NK := Lib.hid (NK.out.below hy NK.out.lt)
      replace ND := Lib.hid (ND.out.below hy ND.out.lt)
      replace R := Lib.hid (R.out.below hy)
      replace OR := Lib.hid (OR.out.below hy)
      replace RE := Lib.hid (RE.out.below hy)
      clear hy
      have L22 := (NK.out.cell 0).trans kg0.out
      have L23 : (loadVar 26 ⟨V2.heap.size, 1, none⟩).run Try.prog V95 = .ok (.agg S) V95 := by have h := run_part_load (P := Try.prog) 26 1 S.toList _ NK.out kp1.out Try.underlying26 rfl IS.out; rwa [Array.toArray_toList] at h
      replace L23 := Lib.hid L23
      have L24 : (loadVar 26 ⟨V2.heap.size + 1, 0, none⟩).run Try.prog V95 = .ok (.agg T) V95 := by have h := run_part_load (P := Try.prog) 26 0 T.toList _ ND.out dp0.out Try.underlying26 rfl IT.out; rwa [Array.toArray_toList] at h
      replace L24 := Lib.hid L24
      go_wp2_with (first | ((with_reducible refine wpList_load_want (op := ⟨some 166, .load 26 (.tmp 165), _, _, _, _⟩) ?wg23 26 (.tmp 165) ?wo23 ⟨V2.heap.size, 1, none⟩ ?wx23 (.agg S) L23.out ?_); (case wg23 => rfl); (case wo23 => rfl); (case wx23 => rfl)) | ((with_reducible refine wpList_load_want (op := ⟨some 168, .load 26 (.tmp 167), _, _, _, _⟩) ?wg24 26 (.tmp 167) ?wo24 ⟨V2.heap.size + 1, 0, none⟩ ?wx24 (.agg T) L24.out ?_); (case wg24 => rfl); (case wo24 => rfl); (case wx24 => rfl)))
      clear L22 L23 L24
      refine (CG4.out _ _ RE.out).mono ?_
      rintro e V96 ⟨rfl, hy⟩
      replace K := Lib.hid (K.out.trans (hy.mono K.out.size))
      replace NK := Lib.hid (NK.out.below hy NK.out.lt)
      replace ND := Lib.hid (ND.out.below hy ND.out.lt)
      replace R := Lib.hid (R.out.below hy)
      replace OR := Lib.hid (OR.out.below hy)
      replace RE := Lib.hid (RE.out.below hy)
      clear hy
      go_wp2_with fail
      refine (awake_any _).mono ?_
      rintro e V97 ⟨rfl, hy⟩
      replace K := Lib.hid (K.out.trans (hy.mono K.out.size))
      replace NK := Lib.hid (NK.out.below hy NK.out.lt)
      replace ND := Lib.hid (ND.out.below hy ND.out.lt)
      replace R := Lib.hid (R.out.below hy)
      replace OR := Lib.hid (OR.out.below hy)
      replace RE := Lib.hid (RE.out.below hy)
      clear hy
      go_wp2
      go_ret
      exact ⟨rfl, K.out⟩
end Go.Proofs.Ytbhiknojjmdbiaa

