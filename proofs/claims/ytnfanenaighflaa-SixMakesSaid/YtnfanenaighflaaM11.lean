/- Texts that the walks of this seat lean on, put together: each has its own remark below. -/
import Derived.Test.YtnfanenaighflaaM05
import Derived.Test.YtnfanenaighflaaM07
import Derived.Test.YtnfanenaighflaaM10

/- The walk of SixMakes. -/
namespace Go.Proofs.Ytnfanenaighflaa
open Go.RowKit

theorem dB_lt (q : Nat) (h : q < 200) : ∀ c ∈ dB q, c < 256 := by simp [dB]; omega
theorem mk6_take (s d e data : List Nat) (p n : Nat) (hs : s.length = 16) : (mk6 s d p n ++ data).take 24 = (mk6 s e p n ++ data).take 24 := by
  have h : ([96, 0, 0, 0, n / 256 % 256, n % 256, p, 64] ++ s).length = 24 := by simp [hs]
  rw [mk6_cons, mk6_cons, ← List.append_assoc, ← List.append_assoc _ s, take_app _ _ _ h, take_app _ _ _ h]
theorem mk6_drop (s d e data : List Nat) (p n : Nat) (hs : s.length = 16) (hd : d.length = 16) (he : e.length = 16) : (mk6 s d p n ++ data).drop 40 = (mk6 s e p n ++ data).drop 40 := by
  rw [drop_app _ _ _ (mk6_length s d hs hd p n), drop_app _ _ _ (mk6_length s e hs he p n)]

set_option maxRecDepth 100000 in
set_option maxHeartbeats 8000000 in
theorem makes6 (n m : Int) (a : Option Addr) (la ca : Nat) (zs : List Nat) (w : World) (hr1 : Rd w (.slice a la ca) (nus .u8 zs)) (hL : zs.length = la) (hna : a = none → ca = 0) (hb1 : ∀ c ∈ zs, c < 256) :
    Calls Try.prog 4 #[.int .i64 n, .int .i64 m, .slice a la ca] w fun e w' => e = .returned (.bool true) ∧ Below w.heap.size w w' := by
  have HR1 := Lib.hid hr1
  have hLm : la ≤ ca ∧ ca ≤ maxLen := by obtain ⟨a', c', e, h1, h2⟩ := rd_shape hr1; cases e; omega
  unfold maxLen at hLm
  have K := Lib.hid (Below.refl w.heap.size w)
  by_cases h500 : 500 < la
  · clear hr1 HR1
    go_enter Try.func4, Try.ntmps4
    have hd1 : decide ((500 : Int) < (la : Int)) = true := decide_eq_true (by omega)
    go_wp2_with fail
    refine (awake_any _).mono ?_
    rintro e V1 ⟨rfl, hy⟩
    replace K := Lib.hid (K.out.trans (hy.mono K.out.size))
    clear hy
    go_wp2
    go_ret
    exact ⟨rfl, K.out⟩
  have hd1 : decide ((500 : Int) < (la : Int)) = false := decide_eq_false (by omega)
  obtain ⟨u, hu⟩ : ∃ u : Nat, u = (n % 1073741824).toNat := ⟨_, rfl⟩
  have hun : n % 1073741824 = (u : Int) := by omega
  have hul : u < 1073741824 := by omega
  obtain ⟨q, hq⟩ : ∃ q : Nat, q = (m % 200).toNat := ⟨_, rfl⟩
  have hqm : m % 200 = (q : Int) := by omega
  have hql : q < 200 := by omega
  obtain ⟨pt, hpt⟩ : ∃ pt : Nat, pt = 8000 + (m % 1000).toNat := ⟨_, rfl⟩
  have hpm : m % 1000 = (pt : Int) - 8000 := by omega
  obtain ⟨N, hN⟩ : ∃ N : Nat, N = 40 + la := ⟨_, rfl⟩
  obtain ⟨s, hs⟩ : ∃ s, s = kS u ++ List.replicate 12 0 := ⟨_, rfl⟩
  obtain ⟨d, hd⟩ : ∃ d, d = kD ++ List.replicate 12 0 := ⟨_, rfl⟩
  obtain ⟨t, ht⟩ : ∃ t, t = dB q ++ List.replicate 12 0 := ⟨_, rfl⟩
  have ls : s.length = 16 := by rw [hs]; rfl
  have ld : d.length = 16 := by rw [hd]; rfl
  have lt : t.length = 16 := by rw [ht]; rfl
  have bs : ∀ c ∈ s, c < 256 := by
    rw [hs]; intro c hc; rcases List.mem_append.1 hc with h | h
    · exact kS_lt u c h
    · have := (List.mem_replicate.1 h).2; omega
  have bd : ∀ c ∈ d, c < 256 := by
    rw [hd]; intro c hc; rcases List.mem_append.1 hc with h | h
    · exact (show ∀ c ∈ kD, c < 256 by decide) c h
    · have := (List.mem_replicate.1 h).2; omega
  have bt : ∀ c ∈ t, c < 256 := by
    rw [ht]; intro c hc; rcases List.mem_append.1 hc with h | h
    · exact dB_lt q hql c h
    · have := (List.mem_replicate.1 h).2; omega
  obtain ⟨S, hS⟩ : ∃ S, S = cellsA true s := ⟨_, rfl⟩
  obtain ⟨D, hD⟩ : ∃ D, D = cellsA true d := ⟨_, rfl⟩
  obtain ⟨T, hT⟩ : ∃ T, T = cellsA true t := ⟨_, rfl⟩
  have zS : S.size = 17 := by rw [hS, cellsA_size, ls]
  have zD : D.size = 17 := by rw [hD, cellsA_size, ld]
  have zT : T.size = 17 := by rw [hT, cellsA_size, lt]
  obtain ⟨kc, hkc⟩ : ∃ kc, kc = kcells 6 S D (1000 + u % 50000) 80 := ⟨_, rfl⟩
  obtain ⟨dc, hdc⟩ : ∃ dc, dc = dcells T pt := ⟨_, rfl⟩
  obtain ⟨hb0, hhb⟩ : ∃ c, c = scells N 17 S D := ⟨_, rfl⟩
  obtain ⟨hc0, hhc⟩ : ∃ c, c = scells N 17 S T := ⟨_, rfl⟩
  obtain ⟨M, hM⟩ : ∃ M, M = mk6 s d 17 la := ⟨_, rfl⟩
  obtain ⟨B, hB⟩ : ∃ B, B = mk6 s d 17 la ++ zs := ⟨_, rfl⟩
  obtain ⟨C, hC⟩ : ∃ C, C = mk6 s t 17 la ++ zs := ⟨_, rfl⟩
  have lB : B.length = N := by rw [hB, List.length_append, mk6_length s d ls ld, hL, hN]
  have lC : C.length = N := by rw [hC, List.length_append, mk6_length s t ls lt, hL, hN]
  have bB : ∀ c ∈ B, c < 256 := by
    rw [hB]; intro c hc
    rcases List.mem_append.1 hc with h | h
    · exact mk6_lt s d 17 la bs bd (by omega) c h
    · exact hb1 c h
  have bC : ∀ c ∈ C, c < 256 := by
    rw [hC]; intro c hc
    rcases List.mem_append.1 hc with h | h
    · exact mk6_lt s t 17 la bs bt (by omega) c h
    · exact hb1 c h
  have fB : f6 B = 0 := by rw [hB]; exact mk6_f s d zs 17 la ls ld (by omega) (.inr rfl) (by omega)
  have fC : f6 C = 0 := by rw [hC]; exact mk6_f s t zs 17 la ls lt (by omega) (.inr rfl) (by omega)
  have gB : hd6 B = hb0 := by rw [hB, hhb, hS, hD, hN]; exact mk6_hd s d zs 17 la ls ld (by omega) (.inr rfl) (by omega)
  have gC : hd6 C = hc0 := by rw [hC, hhc, hS, hT, hN]; exact mk6_hd s t zs 17 la ls lt (by omega) (.inr rfl) (by omega)
  have eC : dst6 B t = C := by rw [hB, hC]; exact mk6_go s d t zs 17 la ls ld lt
  have eB : dst6 C d = B := by rw [hB, hC]; exact mk6_go s t d zs 17 la ls lt ld
  have tC : C.take 24 = B.take 24 := by rw [hB, hC]; exact mk6_take s t d zs 17 la ls
  have dC : C.drop 40 = B.drop 40 := by rw [hB, hC]; exact mk6_drop s t d zs 17 la ls lt ld
  have CK := Lib.hid (show ∀ W, Calls Try.prog 15 #[.int .i64 n, .bool true, .bool false] W fun e w' => e = .returned (.agg kc) ∧ Below W.heap.size W w' from fun W => by rw [hkc, hS, hD, hs, hd]; exact key_tcp n true u _ W hun hul rfl)
  have CM := Lib.hid (show ∀ W, Calls Try.prog 11 #[.agg S, .agg D, .int .u8 17, .int .i64 (la : Int)] W fun e w' => ∃ x, e = .returned (.tuple #[x, .bool true]) ∧ w'.ownsRow W.heap.size 5 1 x 40 (nus .u8 M) ∧ Below W.heap.size W w' from fun W => by rw [hS, hD, hM]; exact make_yes s d 17 la W ls ld (by omega))
  have CP := Lib.hid (show ∀ W, Calls Try.prog 16 #[.int .i64 m, .bool true] W fun e w' => e = .returned (.agg dc) ∧ Below W.heap.size W w' from fun W => by rw [hdc, hT, ht]; exact dip_at m true pt q W hpm hqm (by omega) (by omega) hql)
  have CR := Lib.hid (show ∀ W z, Rd W z (nus .u8 B) → Calls Try.prog 9 #[z] W fun e w' => e = .returned (.tuple #[.agg hb0, .int .i64 0]) ∧ Below W.heap.size W w' from fun W z h => by have := read_any z B W h bB; rw [gB, fB] at this; exact this)
  have CU := Lib.hid (show ∀ W z, Rd W z (nus .u8 C) → Calls Try.prog 9 #[z] W fun e w' => e = .returned (.tuple #[.agg hc0, .int .i64 0]) ∧ Below W.heap.size W w' from fun W z h => by have := read_any z C W h bC; rw [gC, fC] at this; exact this)
  have CC := Lib.hid (show ∀ W z, Rd W z (nus .u8 B) → Calls Try.prog 13 #[z, .agg T] W fun e w' => ∃ x, e = .returned x ∧ w'.ownsRow W.heap.size 5 1 x N (nus .u8 C) ∧ Below W.heap.size W w' from fun W z h => by have := dest_yes z B t W h bB fB (by omega) lt; rw [lB, eC] at this; rw [hT]; exact this)
  have CD := Lib.hid (show ∀ W z, Rd W z (nus .u8 C) → Calls Try.prog 13 #[z, .agg D] W fun e w' => ∃ x, e = .returned x ∧ Rd w' x (nus .u8 B) ∧ Below W.heap.size W w' from fun W z h => by have := dest_yes z C d W h bC fC (by omega) ld; rw [lC, eB] at this; rw [hD]; exact this.mono fun e w' ⟨x, h1, h2, h3⟩ => ⟨x, h1, Rd.own h2, h3⟩)
  have QS := Lib.hid (fun W => eq_cells true s ls bs S hS W)
  have QD := Lib.hid (fun W => eq_cells true d ld bd D hD W)
  have QT := Lib.hid (fun W => eq_cells true t lt bt T hT W)
  have kp1 := Lib.hid (show (kc.toList.drop 1).take S.toList.length = S.toList by rw [hkc]; exact kcells_src _ _ _ _ _)
  have kp2 := Lib.hid (show (kc.toList.drop 18).take D.toList.length = D.toList by rw [hkc]; exact kcells_dst _ _ _ _ _ zS)
  have hp1 := Lib.hid (show (hb0.toList.drop 2).take S.toList.length = S.toList by rw [hhb]; exact scells_src _ _ _ _)
  have hp2 := Lib.hid (show (hb0.toList.drop 19).take D.toList.length = D.toList by rw [hhb]; exact scells_dst _ _ _ _ zS)
  have hp3 := Lib.hid (show (hc0.toList.drop 19).take T.toList.length = T.toList by rw [hhc]; exact scells_dst _ _ _ _ zS)
  have hg0 := Lib.hid (show hb0[0]? = some (.int .i64 (N : Int)) by rw [hhb]; rfl)
  have FD := Lib.hid (show ∀ W, (Instr.field 45 (.agg dc) 0).run Try.prog W = .ok (.agg T) W from fun W => by rw [hdc]; exact dip_addr T pt zT W)
  have IS := Lib.hid (i24.trans (congrArg some (show (17 : Nat) = S.toList.length by simp [zS])))
  have ID := Lib.hid (i24.trans (congrArg some (show (17 : Nat) = D.toList.length by simp [zD])))
  have IT := Lib.hid (i24.trans (congrArg some (show (17 : Nat) = T.toList.length by simp [zT])))
  have zk : kc.size = 37 := by rw [hkc]; exact kcells_size _ _ _ _ _ zS zD
  have zh : hb0.size = 36 := by rw [hhb]; exact scells_size _ _ _ _ zS zD
  have zc : hc0.size = 36 := by rw [hhc]; exact scells_size _ _ _ _ zS zT
  have AS : S.all (·.oneCell') = true := by rw [hS]; exact cellsA_all _ _
  have AD : D.all (·.oneCell') = true := by rw [hD]; exact cellsA_all _ _
  have AT' : T.all (·.oneCell') = true := by rw [hT]; exact cellsA_all _ _
  have Ak := Lib.hid (show kc.all (·.oneCell') = true by rw [hkc]; exact kcells_all _ _ _ _ _ AS AD)
  have Zk := Lib.hid (i42.trans (congrArg some zk.symm))
  have Yk : Hid (kc.size = Array.size (#[Value.int .u8 0, .bool false, .int .u8 0, .int .u8 0, .int .u8 0, .int .u8 0, .int .u8 0, .int .u8 0, .int .u8 0, .int .u8 0, .int .u8 0, .int .u8 0, .int .u8 0, .int .u8 0, .int .u8 0, .int .u8 0, .int .u8 0, .int .u8 0, .bool false, .int .u8 0, .int .u8 0, .int .u8 0, .int .u8 0, .int .u8 0, .int .u8 0, .int .u8 0, .int .u8 0, .int .u8 0, .int .u8 0, .int .u8 0, .int .u8 0, .int .u8 0, .int .u8 0, .int .u8 0, .int .u8 0, .int .u16 0, .int .u16 0] : Array Value)) := zk
  have Ah := Lib.hid (show hb0.all (·.oneCell') = true by rw [hhb]; exact scells_all _ _ _ _ AS AD)
  have Zh := Lib.hid (i36.trans (congrArg some zh.symm))
  have Yh : Hid (hb0.size = Array.size (#[Value.int .i64 0, .int .u8 0, .bool false, .int .u8 0, .int .u8 0, .int .u8 0, .int .u8 0, .int .u8 0, .int .u8 0, .int .u8 0, .int .u8 0, .int .u8 0, .int .u8 0, .int .u8 0, .int .u8 0, .int .u8 0, .int .u8 0, .int .u8 0, .int .u8 0, .bool false, .int .u8 0, .int .u8 0, .int .u8 0, .int .u8 0, .int .u8 0, .int .u8 0, .int .u8 0, .int .u8 0, .int .u8 0, .int .u8 0, .int .u8 0, .int .u8 0, .int .u8 0, .int .u8 0, .int .u8 0, .int .u8 0] : Array Value)) := zh
  have Ac := Lib.hid (show hc0.all (·.oneCell') = true by rw [hhc]; exact scells_all _ _ _ _ AS AT')
  have Zc := Lib.hid (i36.trans (congrArg some zc.symm))
  have Yc : Hid (hc0.size = Array.size (#[Value.int .i64 0, .int .u8 0, .bool false, .int .u8 0, .int .u8 0, .int .u8 0, .int .u8 0, .int .u8 0, .int .u8 0, .int .u8 0, .int .u8 0, .int .u8 0, .int .u8 0, .int .u8 0, .int .u8 0, .int .u8 0, .int .u8 0, .int .u8 0, .int .u8 0, .bool false, .int .u8 0, .int .u8 0, .int .u8 0, .int .u8 0, .int .u8 0, .int .u8 0, .int .u8 0, .int .u8 0, .int .u8 0, .int .u8 0, .int .u8 0, .int .u8 0, .int .u8 0, .int .u8 0, .int .u8 0, .int .u8 0] : Array Value)) := zc
  have AT := Lib.hid AT'
  have ZT := Lib.hid (i24.trans (congrArg some zT.symm))
  have YT : Hid (T.size = Array.size (#[Value.bool false, .int .u8 0, .int .u8 0, .int .u8 0, .int .u8 0, .int .u8 0, .int .u8 0, .int .u8 0, .int .u8 0, .int .u8 0, .int .u8 0, .int .u8 0, .int .u8 0, .int .u8 0, .int .u8 0, .int .u8 0, .int .u8 0] : Array Value)) := zT
  have HB := Lib.hid (show M ++ zs = B by rw [hM, hB])
  have LB := Lib.hid lB
  have LC := Lib.hid lC
  have HN := Lib.hid hN
  have TC := Lib.hid tC
  have DC := Lib.hid dC
  clear hr1 hL hb1 hu hun hul hq hqm hql hpt hpm hs hd ht ls ld lt bs bd bt hS hD hT zS zD zT hkc hdc hhb hhc hM hB hC lB lC bB bC fB fC gB gC eC eB tC dC zk zh zc AS AD AT'
  go_enter Try.func4, Try.ntmps4
  go_wp2_with fail
  refine (CK.out _).mono ?_
  rintro e V1 ⟨rfl, hy⟩
  replace K := Lib.hid (K.out.trans (hy.mono K.out.size))
  replace HR1 := Lib.hid (HR1.out.below hy)
  clear hy
  go_wp2_with (((with_reducible refine wpList_blk_store (op := ⟨none, .store 42 (.tmp 7) (.tmp 22), _, _, _, _⟩) ?sg1 42 (.tmp 7) (.tmp 22) ?so1 (V1.heap.size) kc ?sx1 ?sy1 (Blk.new V1 42 #[Value.int .u8 0, .bool false, .int .u8 0, .int .u8 0, .int .u8 0, .int .u8 0, .int .u8 0, .int .u8 0, .int .u8 0, .int .u8 0, .int .u8 0, .int .u8 0, .int .u8 0, .int .u8 0, .int .u8 0, .int .u8 0, .int .u8 0, .int .u8 0, .bool false, .int .u8 0, .int .u8 0, .int .u8 0, .int .u8 0, .int .u8 0, .int .u8 0, .int .u8 0, .int .u8 0, .int .u8 0, .int .u8 0, .int .u8 0, .int .u8 0, .int .u8 0, .int .u8 0, .int .u8 0, .int .u8 0, .int .u16 0, .int .u16 0]) Yk.out Zk.out Ak.out ?_); (case sg1 => rfl); (case so1 => rfl); (case sx1 => rfl); (case sy1 => rfl)))
  intro V2 hA hF hB
  have hy := ((Below.refl V1.heap.size V1).alloc (Nat.le_refl _) (.cells #[Value.int .u8 0, .bool false, .int .u8 0, .int .u8 0, .int .u8 0, .int .u8 0, .int .u8 0, .int .u8 0, .int .u8 0, .int .u8 0, .int .u8 0, .int .u8 0, .int .u8 0, .int .u8 0, .int .u8 0, .int .u8 0, .int .u8 0, .int .u8 0, .bool false, .int .u8 0, .int .u8 0, .int .u8 0, .int .u8 0, .int .u8 0, .int .u8 0, .int .u8 0, .int .u8 0, .int .u8 0, .int .u8 0, .int .u8 0, .int .u8 0, .int .u8 0, .int .u8 0, .int .u8 0, .int .u8 0, .int .u16 0, .int .u16 0] 42)).trans (hB _ (Nat.le_refl _))
  replace K := Lib.hid (K.out.trans (hy.mono K.out.size))
  replace HR1 := Lib.hid (HR1.out.below hy)
  have NK := Lib.hid hA
  clear hA hF hB hy
  have L2 : (loadVar 25 ⟨V1.heap.size, 1, none⟩).run Try.prog V2 = .ok (.agg S) V2 := by have h := run_part_load (P := Try.prog) 25 1 S.toList _ NK.out kp1.out Try.underlying25 rfl IS.out; rwa [Array.toArray_toList] at h
  replace L2 := Lib.hid L2
  have L3 : (loadVar 25 ⟨V1.heap.size, 18, none⟩).run Try.prog V2 = .ok (.agg D) V2 := by have h := run_part_load (P := Try.prog) 25 18 D.toList _ NK.out kp2.out Try.underlying25 rfl ID.out; rwa [Array.toArray_toList] at h
  replace L3 := Lib.hid L3
  go_wp2_with (first | ((with_reducible refine wpList_load_want (op := ⟨some 25, .load 25 (.tmp 24), _, _, _, _⟩) ?wg2 25 (.tmp 24) ?wo2 ⟨V1.heap.size, 1, none⟩ ?wx2 (.agg S) L2.out ?_); (case wg2 => rfl); (case wo2 => rfl); (case wx2 => rfl)) | ((with_reducible refine wpList_load_want (op := ⟨some 27, .load 25 (.tmp 26), _, _, _, _⟩) ?wg3 25 (.tmp 26) ?wo3 ⟨V1.heap.size, 18, none⟩ ?wx3 (.agg D) L3.out ?_); (case wg3 => rfl); (case wo3 => rfl); (case wx3 => rfl)))
  clear L2 L3
  refine (CM.out _).mono ?_
  rintro e V3 ⟨x, rfl, ox, hy⟩
  replace K := Lib.hid (K.out.trans (hy.mono K.out.size))
  replace HR1 := Lib.hid (HR1.out.below hy)
  replace NK := Lib.hid (NK.out.below hy NK.out.lt)
  have R := Lib.hid (Rd.own ox)
  obtain ⟨gx, cx, rfl, hcx, hcxm, -, -⟩ := own_at ox (by omega)
  clear ox
  clear hy
  go_wp2_with fail
  refine (CP.out _).mono ?_
  rintro e V4 ⟨rfl, hy⟩
  replace K := Lib.hid (K.out.trans (hy.mono K.out.size))
  replace HR1 := Lib.hid (HR1.out.below hy)
  replace NK := Lib.hid (NK.out.below hy NK.out.lt)
  replace R := Lib.hid (R.out.below hy)
  clear hy
  go_wp2_with (first | ((with_reducible refine wpList_field_want (op := ⟨some 35, .field 45 (.tmp 34) 0, _, _, _, _⟩) ?wg4 45 (.tmp 34) 0 ?wo4 (.agg dc) (.agg T) ?wx4 (FD.out _) ?_); (case wg4 => rfl); (case wo4 => rfl); (case wx4 => rfl)) | ((with_reducible refine wpList_blk_store (op := ⟨none, .store 25 (.tmp 10) (.tmp 35), _, _, _, _⟩) ?sg5 25 (.tmp 10) (.tmp 35) ?so5 (V4.heap.size) T ?sx5 ?sy5 (Blk.new V4 25 #[Value.bool false, .int .u8 0, .int .u8 0, .int .u8 0, .int .u8 0, .int .u8 0, .int .u8 0, .int .u8 0, .int .u8 0, .int .u8 0, .int .u8 0, .int .u8 0, .int .u8 0, .int .u8 0, .int .u8 0, .int .u8 0, .int .u8 0]) YT.out ZT.out AT.out ?_); (case sg5 => rfl); (case so5 => rfl); (case sx5 => rfl); (case sy5 => rfl)))
  have qNKNT : V1.heap.size < V4.heap.size := NK.out.lt
  intro V5 hA hF hB
  have hy := ((Below.refl V4.heap.size V4).alloc (Nat.le_refl _) (.cells #[Value.bool false, .int .u8 0, .int .u8 0, .int .u8 0, .int .u8 0, .int .u8 0, .int .u8 0, .int .u8 0, .int .u8 0, .int .u8 0, .int .u8 0, .int .u8 0, .int .u8 0, .int .u8 0, .int .u8 0, .int .u8 0, .int .u8 0] 25)).trans (hB _ (Nat.le_refl _))
  replace K := Lib.hid (K.out.trans (hy.mono K.out.size))
  replace HR1 := Lib.hid (HR1.out.below hy)
  replace NK := Lib.hid (NK.out.below hy NK.out.lt)
  replace R := Lib.hid (R.out.below hy)
  have NT := Lib.hid hA
  clear hA hF hB hy
  have L := Lib.hid (Below.refl V5.heap.size V5)
  have hal := (Below.refl V5.heap.size V5).alloc (Nat.le_refl _) (.cells #[] 5)
  have O := Lib.hid (own_low (b1 := V5.heap.size) L.out.size (own_none V5 5))
  replace L := Lib.hid (L.out.trans (hal.mono L.out.size))
  clear hal
  go_wp2_with ((at_builtin; refine wpList_app rfl (.tmp 36) (.tmp 37) rfl V5.heap.size _ (0) [] rfl O.out (some ⟨gx, 0, none⟩) (40) (cx) M rfl (R.out.below L.out) (by intro e; cases e) ?ap6b ?ap6c ?ap6d))
  case ap6b => omega
  case ap6c => exact L.out.size
  intro vx V6 oz gz
  replace L := Lib.hid (L.out.grown gz L.out.size (fun k e => by first | exact (O.out.lt k e).1 | (cases e; first | exact Nat.le_refl _ | omega)))
  have oz : V6.ownsRow V5.heap.size 5 1 vx (40) (nus .u8 (M)) := by first | exact oz | simpa using oz
  replace O := Lib.hid oz
  obtain ⟨g1, cq1, rfl, hcq1, hcq1m, hg1, hg1u⟩ := own_at O.out (by omega)
  clear oz gz
  go_wp2_with ((at_builtin; refine wpList_app rfl (.tmp 38) (.tmp 39) rfl V5.heap.size _ (40) M rfl O.out (a) (la) (ca) zs rfl (HR1.out.below L.out) hna ?ap7b ?ap7c ?ap7d))
  case ap7b => omega
  case ap7c => exact L.out.size
  intro vx V7 oz gz
  replace L := Lib.hid (L.out.grown gz L.out.size (fun k e => by first | exact (O.out.lt k e).1 | (cases e; first | exact Nat.le_refl _ | omega)))
  replace O := Lib.hid oz
  obtain ⟨gb, cb, rfl, hcb, hcbm, hgb, hgbu⟩ := own_at O.out (by omega)
  clear oz gz
  clear R
  have hy := L.out
  replace K := Lib.hid (K.out.trans (hy.mono K.out.size))
  replace HR1 := Lib.hid (HR1.out.below hy)
  replace NK := Lib.hid (NK.out.below hy NK.out.lt)
  replace NT := Lib.hid (NT.out.below hy NT.out.lt)
  clear hy L
  have O2 := Rd.own O.out
  rw [HB.out] at O2
  clear O
  have O := Lib.hid O2
  clear O2 HR1
  have hNN := HN.out
  clear HN
  subst hNN
  go_wp2_with fail
  refine (CR.out _ _ O.out).mono ?_
  rintro e V8 ⟨rfl, hy⟩
  replace K := Lib.hid (K.out.trans (hy.mono K.out.size))
  replace NK := Lib.hid (NK.out.below hy NK.out.lt)
  replace NT := Lib.hid (NT.out.below hy NT.out.lt)
  replace O := Lib.hid (O.out.below hy)
  clear hy
  go_wp2_with (((with_reducible refine wpList_blk_store (op := ⟨none, .store 29 (.tmp 12) (.tmp 44), _, _, _, _⟩) ?sg8 29 (.tmp 12) (.tmp 44) ?so8 (V8.heap.size) hb0 ?sx8 ?sy8 (Blk.new V8 29 #[Value.int .i64 0, .int .u8 0, .bool false, .int .u8 0, .int .u8 0, .int .u8 0, .int .u8 0, .int .u8 0, .int .u8 0, .int .u8 0, .int .u8 0, .int .u8 0, .int .u8 0, .int .u8 0, .int .u8 0, .int .u8 0, .int .u8 0, .int .u8 0, .int .u8 0, .bool false, .int .u8 0, .int .u8 0, .int .u8 0, .int .u8 0, .int .u8 0, .int .u8 0, .int .u8 0, .int .u8 0, .int .u8 0, .int .u8 0, .int .u8 0, .int .u8 0, .int .u8 0, .int .u8 0, .int .u8 0, .int .u8 0]) Yh.out Zh.out Ah.out ?_); (case sg8 => rfl); (case so8 => rfl); (case sx8 => rfl); (case sy8 => rfl)))
  have qNKNH : V1.heap.size < V8.heap.size := NK.out.lt
  have qNTNH : V4.heap.size < V8.heap.size := NT.out.lt
  intro V9 hA hF hB
  have hy := ((Below.refl V8.heap.size V8).alloc (Nat.le_refl _) (.cells #[Value.int .i64 0, .int .u8 0, .bool false, .int .u8 0, .int .u8 0, .int .u8 0, .int .u8 0, .int .u8 0, .int .u8 0, .int .u8 0, .int .u8 0, .int .u8 0, .int .u8 0, .int .u8 0, .int .u8 0, .int .u8 0, .int .u8 0, .int .u8 0, .int .u8 0, .bool false, .int .u8 0, .int .u8 0, .int .u8 0, .int .u8 0, .int .u8 0, .int .u8 0, .int .u8 0, .int .u8 0, .int .u8 0, .int .u8 0, .int .u8 0, .int .u8 0, .int .u8 0, .int .u8 0, .int .u8 0, .int .u8 0] 29)).trans (hB _ (Nat.le_refl _))
  replace K := Lib.hid (K.out.trans (hy.mono K.out.size))
  replace NK := Lib.hid (NK.out.below hy NK.out.lt)
  replace NT := Lib.hid (NT.out.below hy NT.out.lt)
  replace O := Lib.hid (O.out.below hy)
  have NH := Lib.hid hA
  clear hA hF hB hy
  have L9 : (loadVar 25 ⟨V4.heap.size, 0, none⟩).run Try.prog V9 = .ok (.agg T) V9 := run_blk_load (P := Try.prog) 25 (V4.heap.size) _ NT.out Try.underlying25 rfl ZT.out
  replace L9 := Lib.hid L9
  go_wp2_with (((with_reducible refine wpList_load_want (op := ⟨some 47, .load 25 (.tmp 10), _, _, _, _⟩) ?wg9 25 (.tmp 10) ?wo9 ⟨V4.heap.size, 0, none⟩ ?wx9 (.agg T) L9.out ?_); (case wg9 => rfl); (case wo9 => rfl); (case wx9 => rfl)))
  clear L9
  refine (CC.out _ _ O.out).mono ?_
  rintro e V10 ⟨x, rfl, ox, hy⟩
  replace K := Lib.hid (K.out.trans (hy.mono K.out.size))
  replace NK := Lib.hid (NK.out.below hy NK.out.lt)
  replace NT := Lib.hid (NT.out.below hy NT.out.lt)
  replace O := Lib.hid (O.out.below hy)
  replace NH := Lib.hid (NH.out.below hy NH.out.lt)
  have R := Lib.hid (Rd.own ox)
  obtain ⟨gc, cc, rfl, hcc, hccm, -, -⟩ := own_at ox (by omega)
  have QS2 := QS.out
  have QD2 := QD.out
  have QT2 := QT.out
  clear ox
  clear hy
  go_wp2_with fail
  refine (CU.out _ _ R.out).mono ?_
  rintro e V11 ⟨rfl, hy⟩
  replace K := Lib.hid (K.out.trans (hy.mono K.out.size))
  replace NK := Lib.hid (NK.out.below hy NK.out.lt)
  replace NT := Lib.hid (NT.out.below hy NT.out.lt)
  replace O := Lib.hid (O.out.below hy)
  replace NH := Lib.hid (NH.out.below hy NH.out.lt)
  replace R := Lib.hid (R.out.below hy)
  clear hy
  go_wp2_with (((with_reducible refine wpList_blk_store (op := ⟨none, .store 29 (.tmp 15) (.tmp 52), _, _, _, _⟩) ?sg10 29 (.tmp 15) (.tmp 52) ?so10 (V11.heap.size) hc0 ?sx10 ?sy10 (Blk.new V11 29 #[Value.int .i64 0, .int .u8 0, .bool false, .int .u8 0, .int .u8 0, .int .u8 0, .int .u8 0, .int .u8 0, .int .u8 0, .int .u8 0, .int .u8 0, .int .u8 0, .int .u8 0, .int .u8 0, .int .u8 0, .int .u8 0, .int .u8 0, .int .u8 0, .int .u8 0, .bool false, .int .u8 0, .int .u8 0, .int .u8 0, .int .u8 0, .int .u8 0, .int .u8 0, .int .u8 0, .int .u8 0, .int .u8 0, .int .u8 0, .int .u8 0, .int .u8 0, .int .u8 0, .int .u8 0, .int .u8 0, .int .u8 0]) Yc.out Zc.out Ac.out ?_); (case sg10 => rfl); (case so10 => rfl); (case sx10 => rfl); (case sy10 => rfl)))
  have qNKNC : V1.heap.size < V11.heap.size := NK.out.lt
  have qNTNC : V4.heap.size < V11.heap.size := NT.out.lt
  have qNHNC : V8.heap.size < V11.heap.size := NH.out.lt
  intro V12 hA hF hB
  have hy := ((Below.refl V11.heap.size V11).alloc (Nat.le_refl _) (.cells #[Value.int .i64 0, .int .u8 0, .bool false, .int .u8 0, .int .u8 0, .int .u8 0, .int .u8 0, .int .u8 0, .int .u8 0, .int .u8 0, .int .u8 0, .int .u8 0, .int .u8 0, .int .u8 0, .int .u8 0, .int .u8 0, .int .u8 0, .int .u8 0, .int .u8 0, .bool false, .int .u8 0, .int .u8 0, .int .u8 0, .int .u8 0, .int .u8 0, .int .u8 0, .int .u8 0, .int .u8 0, .int .u8 0, .int .u8 0, .int .u8 0, .int .u8 0, .int .u8 0, .int .u8 0, .int .u8 0, .int .u8 0] 29)).trans (hB _ (Nat.le_refl _))
  replace K := Lib.hid (K.out.trans (hy.mono K.out.size))
  replace NK := Lib.hid (NK.out.below hy NK.out.lt)
  replace NT := Lib.hid (NT.out.below hy NT.out.lt)
  replace O := Lib.hid (O.out.below hy)
  replace NH := Lib.hid (NH.out.below hy NH.out.lt)
  replace R := Lib.hid (R.out.below hy)
  have NC := Lib.hid hA
  clear hA hF hB hy
  have L11 := (NH.out.cell 0).trans hg0.out
  have L12 : (loadVar 25 ⟨V8.heap.size, 2, none⟩).run Try.prog V12 = .ok (.agg S) V12 := by have h := run_part_load (P := Try.prog) 25 2 S.toList _ NH.out hp1.out Try.underlying25 rfl IS.out; rwa [Array.toArray_toList] at h
  replace L12 := Lib.hid L12
  have L13 : (loadVar 25 ⟨V1.heap.size, 1, none⟩).run Try.prog V12 = .ok (.agg S) V12 := by have h := run_part_load (P := Try.prog) 25 1 S.toList _ NK.out kp1.out Try.underlying25 rfl IS.out; rwa [Array.toArray_toList] at h
  replace L13 := Lib.hid L13
  have L14 : (loadVar 25 ⟨V8.heap.size, 19, none⟩).run Try.prog V12 = .ok (.agg D) V12 := by have h := run_part_load (P := Try.prog) 25 19 D.toList _ NH.out hp2.out Try.underlying25 rfl ID.out; rwa [Array.toArray_toList] at h
  replace L14 := Lib.hid L14
  have L15 : (loadVar 25 ⟨V1.heap.size, 18, none⟩).run Try.prog V12 = .ok (.agg D) V12 := by have h := run_part_load (P := Try.prog) 25 18 D.toList _ NK.out kp2.out Try.underlying25 rfl ID.out; rwa [Array.toArray_toList] at h
  replace L15 := Lib.hid L15
  have L16 : (loadVar 25 ⟨V11.heap.size, 19, none⟩).run Try.prog V12 = .ok (.agg T) V12 := by have h := run_part_load (P := Try.prog) 25 19 T.toList _ NC.out hp3.out Try.underlying25 rfl IT.out; rwa [Array.toArray_toList] at h
  replace L16 := Lib.hid L16
  have L17 : (loadVar 25 ⟨V4.heap.size, 0, none⟩).run Try.prog V12 = .ok (.agg T) V12 := run_blk_load (P := Try.prog) 25 (V4.heap.size) _ NT.out Try.underlying25 rfl ZT.out
  replace L17 := Lib.hid L17
  go_wp2_with (first | ((with_reducible refine wpList_load_want (op := ⟨some 69, .load 25 (.tmp 68), _, _, _, _⟩) ?wg12 25 (.tmp 68) ?wo12 ⟨V8.heap.size, 2, none⟩ ?wx12 (.agg S) L12.out ?_); (case wg12 => rfl); (case wo12 => rfl); (case wx12 => rfl)) | ((with_reducible refine wpList_load_want (op := ⟨some 71, .load 25 (.tmp 70), _, _, _, _⟩) ?wg13 25 (.tmp 70) ?wo13 ⟨V1.heap.size, 1, none⟩ ?wx13 (.agg S) L13.out ?_); (case wg13 => rfl); (case wo13 => rfl); (case wx13 => rfl)) | ((with_reducible refine wpList_load_want (op := ⟨some 76, .load 25 (.tmp 75), _, _, _, _⟩) ?wg14 25 (.tmp 75) ?wo14 ⟨V8.heap.size, 19, none⟩ ?wx14 (.agg D) L14.out ?_); (case wg14 => rfl); (case wo14 => rfl); (case wx14 => rfl)) | ((with_reducible refine wpList_load_want (op := ⟨some 78, .load 25 (.tmp 77), _, _, _, _⟩) ?wg15 25 (.tmp 77) ?wo15 ⟨V1.heap.size, 18, none⟩ ?wx15 (.agg D) L15.out ?_); (case wg15 => rfl); (case wo15 => rfl); (case wx15 => rfl)) | ((with_reducible refine wpList_load_want (op := ⟨some 87, .load 25 (.tmp 86), _, _, _, _⟩) ?wg16 25 (.tmp 86) ?wo16 ⟨V11.heap.size, 19, none⟩ ?wx16 (.agg T) L16.out ?_); (case wg16 => rfl); (case wo16 => rfl); (case wx16 => rfl)) | ((with_reducible refine wpList_load_want (op := ⟨some 88, .load 25 (.tmp 10), _, _, _, _⟩) ?wg17 25 (.tmp 10) ?wo17 ⟨V4.heap.size, 0, none⟩ ?wx17 (.agg T) L17.out ?_); (case wg17 => rfl); (case wo17 => rfl); (case wx17 => rfl)))
  clear L11 L12 L13 L14 L15 L16 L17
  have cv : ∀ (W : World) (v : Value) (l : List Nat), Rd V12 v (nus .u8 l) → Below V12.heap.size V12 W → (convert 22 9 v).run Try.prog W = .ok (.string (str l)) W := fun W v l h hW => conv_rd W 22 9 5 Try.underlying22 Try.underlying5 Try.underlying9 _ _ (h.below hW)
  have b1 := Lib.hid (O.out.front 24 (by rw [LB.out]; omega))
  have b2 := Lib.hid (subP O.out 40 la (by omega))
  have y1 := Lib.hid (R.out.front 24 (by rw [LC.out]; omega))
  have y2 := Lib.hid (subP R.out 40 la (by omega))
  rw [TC.out] at y1
  rw [DC.out] at y2
  have V1 := Lib.hid (fun W => cv W _ _ b1.out)
  have V2 := Lib.hid (fun W => cv W _ _ b2.out)
  have V3 := Lib.hid (fun W => cv W _ _ O.out)
  have U1 := Lib.hid (fun W => cv W _ _ y1.out)
  have U2 := Lib.hid (fun W => cv W _ _ y2.out)
  clear cv b1 b2 y1 y2
  generalize str (B.take 24) = s1 at V1 U1
  generalize str ((B.drop 40).take la) = s2 at V2 U2
  obtain ⟨s3, hs3⟩ : ∃ s, s = str B := ⟨_, rfl⟩
  rw [← hs3] at V3
  have HS3 := Lib.hid hs3
  clear hs3
  go_wp2_with fail
  refine wp_region_held (S := (fun w' : World => Below (V12.heap.size) V12 w')) (by kernel_rfl) ?_
  change wpAnyH _ _ _ _ _ _ _ _ V12.drew
  have hy : Below V12.heap.size V12 V12.drew := (Below.refl _ _).drew
  have hE0 : Below (V12.heap.size) V12 V12.drew := (Below.refl _ _).drew
  clear hy
  generalize V12.drew = Y12x0 at hE0  ⊢
  have E0 := Lib.hid hE0
  clear hE0
  refine wpAnyH_take (i := 0) (oi := { dst := some 98, op := Op.move (Operand.tmp 14), type := 22, pos := "law.go:51", after := #[], guard := none }) (v := ?_) rfl (by kernel_rfl) (by kernel_rfl) (by kernel_rfl) (fun _ _ _ h => h) (Or.inl ⟨by rfl, ?_⟩) E0.out ?_
  rotate_left
  · (intro w1 hS; go_simp; try with_reducible rfl)
  simp only [Act.put, List.setIfInBounds_toArray, List.set_cons_zero, List.set_cons_succ]
  refine wpAnyH_take (i := 1) (oi := { dst := some 99, op := Op.slice 22 (Operand.tmp 98) none (some (Operand.const (Value.int IntKind.i64 24))) none, type := 22, pos := "law.go:51", after := #[{ on := 0, ground := Ground.data }], guard := none }) (v := ?_) rfl (by kernel_rfl) (by kernel_rfl) (by kernel_rfl) (fun _ _ _ h => h) (Or.inl ⟨by rfl, ?_⟩) E0.out ?_
  rotate_left
  · (intro w1 hS; have hW := hS; have q : (24 : Int) ≤ (cc : Int) := (by omega); clear hW hS; go_simp; try with_reducible rfl)
  simp only [Act.put, List.setIfInBounds_toArray, List.set_cons_zero, List.set_cons_succ]
  refine wpAnyH_take (i := 2) (oi := { dst := some 100, op := Op.convert 22 9 (Operand.tmp 99), type := 9, pos := "law.go:51", after := #[{ on := 1, ground := Ground.data }], guard := none }) (v := ?_) rfl (by kernel_rfl) (by kernel_rfl) (by kernel_rfl) (fun _ _ _ h => h) (Or.inl ⟨by rfl, ?_⟩) E0.out ?_
  rotate_left
  · (intro w1 hS; have hW := hS; have q := U1.out w1 hW; clear hW hS; go_simp; try with_reducible rfl)
  simp only [Act.put, List.setIfInBounds_toArray, List.set_cons_zero, List.set_cons_succ]
  refine wpAnyH_take (i := 3) (oi := { dst := some 101, op := Op.move (Operand.tmp 11), type := 22, pos := "law.go:51", after := #[], guard := none }) (v := ?_) rfl (by kernel_rfl) (by kernel_rfl) (by kernel_rfl) (fun _ _ _ h => h) (Or.inl ⟨by rfl, ?_⟩) E0.out ?_
  rotate_left
  · (intro w1 hS; go_simp; try with_reducible rfl)
  simp only [Act.put, List.setIfInBounds_toArray, List.set_cons_zero, List.set_cons_succ]
  refine wpAnyH_take (i := 4) (oi := { dst := some 102, op := Op.slice 22 (Operand.tmp 101) none (some (Operand.const (Value.int IntKind.i64 24))) none, type := 22, pos := "law.go:51", after := #[{ on := 3, ground := Ground.data }], guard := none }) (v := ?_) rfl (by kernel_rfl) (by kernel_rfl) (by kernel_rfl) (fun _ _ _ h => h) (Or.inl ⟨by rfl, ?_⟩) E0.out ?_
  rotate_left
  · (intro w1 hS; have hW := hS; have q : (24 : Int) ≤ (cb : Int) := (by omega); clear hW hS; go_simp; try with_reducible rfl)
  simp only [Act.put, List.setIfInBounds_toArray, List.set_cons_zero, List.set_cons_succ]
  refine wpAnyH_take (i := 5) (oi := { dst := some 103, op := Op.convert 22 9 (Operand.tmp 102), type := 9, pos := "law.go:51", after := #[{ on := 4, ground := Ground.data }], guard := none }) (v := ?_) rfl (by kernel_rfl) (by kernel_rfl) (by kernel_rfl) (fun _ _ _ h => h) (Or.inl ⟨by rfl, ?_⟩) E0.out ?_
  rotate_left
  · (intro w1 hS; have hW := hS; have q := V1.out w1 hW; clear hW hS; go_simp; try with_reducible rfl)
  simp only [Act.put, List.setIfInBounds_toArray, List.set_cons_zero, List.set_cons_succ]
  refine wpAnyH_take (i := 6) (oi := { dst := some 104, op := Op.binOp BinOp.eql 9 (Operand.tmp 100) (Operand.tmp 103) 9, type := 4, pos := "law.go:51", after := #[{ on := 2, ground := Ground.data }, { on := 5, ground := Ground.data }], guard := none }) (v := ?_) rfl (by kernel_rfl) (by kernel_rfl) (by kernel_rfl) (fun _ _ _ h => h) (Or.inl ⟨by rfl, ?_⟩) E0.out ?_
  rotate_left
  · (intro w1 hS; go_simp; try with_reducible rfl)
  simp only [Act.put, List.setIfInBounds_toArray, List.set_cons_zero, List.set_cons_succ]
  refine wpAnyH_take (i := 7) (oi := { dst := some 105, op := Op.move (Operand.tmp 104), type := 4, pos := "law.go:51", after := #[{ on := 6, ground := Ground.data }], guard := none }) (v := ?_) rfl (by kernel_rfl) (by kernel_rfl) (by kernel_rfl) (fun _ _ _ h => h) (Or.inl ⟨by rfl, ?_⟩) E0.out ?_
  rotate_left
  · (intro w1 hS; go_simp; try with_reducible rfl)
  simp only [Act.put, List.setIfInBounds_toArray, List.set_cons_zero, List.set_cons_succ]
  refine wpAnyH_take (i := 8) (oi := { dst := some 106, op := Op.move (Operand.tmp 14), type := 22, pos := "law.go:51", after := #[{ on := 7, ground := Ground.guard }], guard := some (7, true) }) (v := ?_) rfl (by kernel_rfl) (by kernel_rfl) (by kernel_rfl) (fun _ _ _ h => h) (Or.inl ⟨by rfl, ?_⟩) E0.out ?_
  rotate_left
  · (intro w1 hS; go_simp; try with_reducible rfl)
  simp only [Act.put, List.setIfInBounds_toArray, List.set_cons_zero, List.set_cons_succ]
  refine wpAnyH_take (i := 9) (oi := { dst := some 107, op := Op.slice 22 (Operand.tmp 106) (some (Operand.const (Value.int IntKind.i64 40))) none none, type := 22, pos := "law.go:51", after := #[{ on := 8, ground := Ground.data }, { on := 7, ground := Ground.guard }], guard := some (7, true) }) (v := ?_) rfl (by kernel_rfl) (by kernel_rfl) (by kernel_rfl) (fun _ _ _ h => h) (Or.inl ⟨by rfl, ?_⟩) E0.out ?_
  rotate_left
  · (intro w1 hS; have hW := hS; have q : (40 : Int) ≤ 40 + (la : Int) := (by omega); clear hW hS; go_simp; try with_reducible rfl)
  simp only [Act.put, List.setIfInBounds_toArray, List.set_cons_zero, List.set_cons_succ]
  refine wpAnyH_take (i := 10) (oi := { dst := some 108, op := Op.convert 22 9 (Operand.tmp 107), type := 9, pos := "law.go:51", after := #[{ on := 9, ground := Ground.data }, { on := 7, ground := Ground.guard }], guard := some (7, true) }) (v := ?_) rfl (by kernel_rfl) (by kernel_rfl) (by kernel_rfl) (fun _ _ _ h => h) (Or.inl ⟨by rfl, ?_⟩) E0.out ?_
  rotate_left
  · (intro w1 hS; have hW := hS; have q := U2.out w1 hW; clear hW hS; go_simp; try with_reducible rfl)
  simp only [Act.put, List.setIfInBounds_toArray, List.set_cons_zero, List.set_cons_succ]
  refine wpAnyH_take (i := 11) (oi := { dst := some 109, op := Op.move (Operand.tmp 11), type := 22, pos := "law.go:51", after := #[{ on := 7, ground := Ground.guard }], guard := some (7, true) }) (v := ?_) rfl (by kernel_rfl) (by kernel_rfl) (by kernel_rfl) (fun _ _ _ h => h) (Or.inl ⟨by rfl, ?_⟩) E0.out ?_
  rotate_left
  · (intro w1 hS; go_simp; try with_reducible rfl)
  simp only [Act.put, List.setIfInBounds_toArray, List.set_cons_zero, List.set_cons_succ]
  refine wpAnyH_take (i := 12) (oi := { dst := some 110, op := Op.slice 22 (Operand.tmp 109) (some (Operand.const (Value.int IntKind.i64 40))) none none, type := 22, pos := "law.go:51", after := #[{ on := 11, ground := Ground.data }, { on := 7, ground := Ground.guard }], guard := some (7, true) }) (v := ?_) rfl (by kernel_rfl) (by kernel_rfl) (by kernel_rfl) (fun _ _ _ h => h) (Or.inl ⟨by rfl, ?_⟩) E0.out ?_
  rotate_left
  · (intro w1 hS; have hW := hS; have q : (40 : Int) ≤ 40 + (la : Int) := (by omega); clear hW hS; go_simp; try with_reducible rfl)
  simp only [Act.put, List.setIfInBounds_toArray, List.set_cons_zero, List.set_cons_succ]
  refine wpAnyH_take (i := 13) (oi := { dst := some 111, op := Op.convert 22 9 (Operand.tmp 110), type := 9, pos := "law.go:51", after := #[{ on := 12, ground := Ground.data }, { on := 7, ground := Ground.guard }], guard := some (7, true) }) (v := ?_) rfl (by kernel_rfl) (by kernel_rfl) (by kernel_rfl) (fun _ _ _ h => h) (Or.inl ⟨by rfl, ?_⟩) E0.out ?_
  rotate_left
  · (intro w1 hS; have hW := hS; have q := V2.out w1 hW; clear hW hS; go_simp; try with_reducible rfl)
  simp only [Act.put, List.setIfInBounds_toArray, List.set_cons_zero, List.set_cons_succ]
  refine wpAnyH_take (i := 14) (oi := { dst := some 112, op := Op.binOp BinOp.eql 9 (Operand.tmp 108) (Operand.tmp 111) 9, type := 4, pos := "law.go:51", after := #[{ on := 10, ground := Ground.data }, { on := 13, ground := Ground.data }, { on := 7, ground := Ground.guard }], guard := some (7, true) }) (v := ?_) rfl (by kernel_rfl) (by kernel_rfl) (by kernel_rfl) (fun _ _ _ h => h) (Or.inl ⟨by rfl, ?_⟩) E0.out ?_
  rotate_left
  · (intro w1 hS; go_simp; try with_reducible rfl)
  simp only [Act.put, List.setIfInBounds_toArray, List.set_cons_zero, List.set_cons_succ]
  refine wpAnyH_take (i := 15) (oi := { dst := some 113, op := Op.pick (Operand.tmp 105) (Operand.tmp 112) (Operand.const (Value.bool false)), type := 4, pos := "law.go:51", after := #[{ on := 7, ground := Ground.data }, { on := 14, ground := Ground.data }], guard := none }) (v := ?_) rfl (by kernel_rfl) (by kernel_rfl) (by kernel_rfl) (fun _ _ _ h => h) (Or.inl ⟨by rfl, ?_⟩) E0.out ?_
  rotate_left
  · (intro w1 hS; go_simp; try with_reducible rfl)
  simp only [Act.put, List.setIfInBounds_toArray, List.set_cons_zero, List.set_cons_succ]
  refine wpAnyH_take (i := 16) (oi := { dst := some 114, op := Op.move (Operand.tmp 113), type := 4, pos := "law.go:51", after := #[{ on := 15, ground := Ground.data }, { on := 7, ground := Ground.chain }], guard := none }) (v := ?_) rfl (by kernel_rfl) (by kernel_rfl) (by kernel_rfl) (fun _ _ _ h => h) (Or.inl ⟨by rfl, ?_⟩) E0.out ?_
  rotate_left
  · (intro w1 hS; go_simp; try with_reducible rfl)
  simp only [Act.put, List.setIfInBounds_toArray, List.set_cons_zero, List.set_cons_succ]
  refine wpAnyH_take (i := 17) (oi := { dst := some 115, op := Op.move (Operand.tmp 14), type := 22, pos := "law.go:51", after := #[{ on := 16, ground := Ground.guard }], guard := some (16, true) }) (v := ?_) rfl (by kernel_rfl) (by kernel_rfl) (by kernel_rfl) (fun _ _ _ h => h) (Or.inl ⟨by rfl, ?_⟩) E0.out ?_
  rotate_left
  · (intro w1 hS; go_simp; try with_reducible rfl)
  simp only [Act.put, List.setIfInBounds_toArray, List.set_cons_zero, List.set_cons_succ]
  refine wpAnyH_take (i := 18) (oi := { dst := some 116, op := Op.fieldAddr 42 (Operand.tmp 7) 2, type := 0, pos := "law.go:51", after := #[{ on := 16, ground := Ground.guard }], guard := some (16, true) }) (v := ?_) rfl (by kernel_rfl) (by kernel_rfl) (by kernel_rfl) (fun _ _ _ h => h) (Or.inl ⟨by rfl, ?_⟩) E0.out ?_
  rotate_left
  · (intro w1 hS; go_simp; try with_reducible rfl)
  simp only [Act.put, List.setIfInBounds_toArray, List.set_cons_zero, List.set_cons_succ]
  refine wpAnyH_take (i := 19) (oi := { dst := some 117, op := Op.load 25 (Operand.tmp 116), type := 25, pos := "law.go:51", after := #[{ on := 18, ground := Ground.data }, { on := 16, ground := Ground.guard }], guard := some (16, true) }) (v := .agg D) rfl (by kernel_rfl) (by kernel_rfl) (by kernel_rfl) (fun _ _ _ h => h) (Or.inl ⟨by rfl, ?_⟩) E0.out ?_
  · (intro w1 hS; have hW := hS; exact exec_load 25 (.tmp 116) rfl _ rfl _ (by have h := run_part_load (P := Try.prog) 25 18 D.toList _ (NK.out.below hW NK.out.lt) kp2.out Try.underlying25 rfl ID.out; rwa [Array.toArray_toList] at h))
  simp only [Act.put, List.setIfInBounds_toArray, List.set_cons_zero, List.set_cons_succ]
  refine wpAnyH_take (i := 22) (oi := { dst := some 120, op := Op.move (Operand.tmp 11), type := 22, pos := "law.go:51", after := #[{ on := 16, ground := Ground.guard }], guard := some (16, true) }) (v := ?_) rfl (by kernel_rfl) (by kernel_rfl) (by kernel_rfl) (fun _ _ _ h => h) (Or.inl ⟨by rfl, ?_⟩) E0.out ?_
  rotate_left
  · (intro w1 hS; go_simp; try with_reducible rfl)
  simp only [Act.put, List.setIfInBounds_toArray, List.set_cons_zero, List.set_cons_succ]
  refine wpAnyH_take (i := 23) (oi := { dst := some 121, op := Op.convert 22 9 (Operand.tmp 120), type := 9, pos := "law.go:51", after := #[{ on := 22, ground := Ground.data }, { on := 16, ground := Ground.guard }], guard := some (16, true) }) (v := ?_) rfl (by kernel_rfl) (by kernel_rfl) (by kernel_rfl) (fun _ _ _ h => h) (Or.inl ⟨by rfl, ?_⟩) E0.out ?_
  rotate_left
  · (intro w1 hS; have hW := hS; have q := V3.out w1 hW; clear hW hS; go_simp; try with_reducible rfl)
  simp only [Act.put, List.setIfInBounds_toArray, List.set_cons_zero, List.set_cons_succ]
  refine wpAnyH_ready (rs := [20]) (by kernel_rfl) (by simp) ?_
  refine AllReadyH.cons (o := { dst := some 118, op := Op.call { callee := Callee.value (Operand.func 13), args := #[Operand.tmp 115, Operand.tmp 117], argTypes := #[22, 25] }, type := 22, pos := "law.go:51", after := #[{ on := 17, ground := Ground.data }, { on := 19, ground := Ground.data }, { on := 16, ground := Ground.chain }, { on := 16, ground := Ground.guard }], guard := some (16, true) }) rfl (fun KK hK => ?_) AllReadyH.nil
  go_simp
  refine (CD.out Y12x0 _ (R.out.below E0.out)).mono ?_
  rintro e Y12x1 ⟨x, rfl, rx, hy⟩
  have E1 := Lib.hid (E0.out.trans (hy.mono E0.out.size))
  have C1 := Lib.hid E1.out
  have Hx' : ∀ W', Below Y12x1.heap.size Y12x1 W' → (convert 22 9 x).run Try.prog W' = .ok (.string (str B)) W' := fun W' hW' => conv_rd W' 22 9 5 Try.underlying22 Try.underlying5 Try.underlying9 _ _ (rx.below hW')
  rw [← HS3.out] at Hx'
  have Hx := Lib.hid Hx'
  clear Hx' rx
  clear hy E0
  refine hK.out _ _ C1.out (fun _ => ?_)
  clear hK KK
  refine wpAnyH_mono (S' := (fun w' : World => Below Y12x1.heap.size Y12x1 w')) (fun w1 h => C1.out.trans (h.mono C1.out.size)) _ _ _ _ ?_
  clear C1
  try simp only [Act.put, List.setIfInBounds_toArray, List.set_cons_zero, List.set_cons_succ]
  refine wpAnyH_take (i := 21) (oi := { dst := some 119, op := Op.convert 22 9 (Operand.tmp 118), type := 9, pos := "law.go:51", after := #[{ on := 20, ground := Ground.data }, { on := 16, ground := Ground.guard }], guard := some (16, true) }) (v := ?_) rfl (by kernel_rfl) (by kernel_rfl) (by kernel_rfl) (fun _ _ _ h => h) (Or.inl ⟨by rfl, ?_⟩) (Below.refl _ _) ?_
  rotate_left
  · (intro w1 hS; have hW := E1.out.trans (hS.mono E1.out.size); have q := Hx.out w1 hS; clear hW hS; go_simp; try with_reducible rfl)
  simp only [Act.put, List.setIfInBounds_toArray, List.set_cons_zero, List.set_cons_succ]
  refine wpAnyH_take (i := 24) (oi := { dst := some 122, op := Op.binOp BinOp.eql 9 (Operand.tmp 119) (Operand.tmp 121) 9, type := 4, pos := "law.go:51", after := #[{ on := 21, ground := Ground.data }, { on := 23, ground := Ground.data }, { on := 16, ground := Ground.guard }], guard := some (16, true) }) (v := ?_) rfl (by kernel_rfl) (by kernel_rfl) (by kernel_rfl) (fun _ _ _ h => h) (Or.inl ⟨by rfl, ?_⟩) (Below.refl _ _) ?_
  rotate_left
  · (intro w1 hS; go_simp; try with_reducible rfl)
  simp only [Act.put, List.setIfInBounds_toArray, List.set_cons_zero, List.set_cons_succ]
  refine wpAnyH_take (i := 25) (oi := { dst := some 123, op := Op.pick (Operand.tmp 114) (Operand.tmp 122) (Operand.const (Value.bool false)), type := 4, pos := "law.go:51", after := #[{ on := 16, ground := Ground.data }, { on := 24, ground := Ground.data }], guard := none }) (v := ?_) rfl (by kernel_rfl) (by kernel_rfl) (by kernel_rfl) (fun _ _ _ h => h) (Or.inl ⟨by rfl, ?_⟩) (Below.refl _ _) ?_
  rotate_left
  · (intro w1 hS; go_simp; try with_reducible rfl)
  simp only [Act.put, List.setIfInBounds_toArray, List.set_cons_zero, List.set_cons_succ]
  refine wpAnyH_take (i := 26) (oi := { dst := some 124, op := Op.move (Operand.tmp 123), type := 4, pos := "law.go:51", after := #[{ on := 25, ground := Ground.data }, { on := 20, ground := Ground.chain }], guard := none }) (v := ?_) rfl (by kernel_rfl) (by kernel_rfl) (by kernel_rfl) (fun _ _ _ h => h) (Or.inl ⟨by rfl, ?_⟩) (Below.refl _ _) ?_
  rotate_left
  · (intro w1 hS; go_simp; try with_reducible rfl)
  simp only [Act.put, List.setIfInBounds_toArray, List.set_cons_zero, List.set_cons_succ]
  refine wpAnyH_ready (rs := [27]) (by kernel_rfl) (by simp) ?_
  refine AllReadyH.cons (o := { dst := some 125, op := Op.call { callee := Callee.value (Operand.func 8), args := #[], argTypes := #[] }, type := 4, pos := "law.go:51", after := #[{ on := 26, ground := Ground.chain }, { on := 26, ground := Ground.guard }], guard := some (26, true) }) rfl (fun KK hK => ?_) AllReadyH.nil
  go_simp
  refine (awake_any Y12x1).mono ?_
  rintro e Y12x2 ⟨rfl, hy⟩
  have E2 := Lib.hid (E1.out.trans (hy.mono E1.out.size))
  have C2 := Lib.hid hy
  clear hy E1
  refine hK.out _ _ C2.out (fun _ => ?_)
  clear hK KK
  refine wpAnyH_mono (S' := (fun w' : World => Below Y12x2.heap.size Y12x2 w')) (fun w1 h => C2.out.trans (h.mono C2.out.size)) _ _ _ _ ?_
  clear C2
  try simp only [Act.put, List.setIfInBounds_toArray, List.set_cons_zero, List.set_cons_succ]
  refine wpAnyH_take (i := 28) (oi := { dst := some 126, op := Op.pick (Operand.tmp 124) (Operand.tmp 125) (Operand.const (Value.bool false)), type := 4, pos := "law.go:51", after := #[{ on := 26, ground := Ground.data }, { on := 27, ground := Ground.data }], guard := none }) (v := ?_) rfl (by kernel_rfl) (by kernel_rfl) (by kernel_rfl) (fun _ _ _ h => h) (Or.inl ⟨by rfl, ?_⟩) (Below.refl _ _) ?_
  rotate_left
  · (intro w1 hS; go_simp; try with_reducible rfl)
  simp only [Act.put, List.setIfInBounds_toArray, List.set_cons_zero, List.set_cons_succ]
  refine wpAnyH_take (i := 29) (oi := { dst := some 6, op := Op.assign (Operand.tmp 126), type := 4, pos := "law.go:51", after := #[{ on := 28, ground := Ground.data }, { on := 27, ground := Ground.chain }, { on := 0, ground := Ground.phase }, { on := 1, ground := Ground.phase }, { on := 2, ground := Ground.phase }, { on := 3, ground := Ground.phase }, { on := 4, ground := Ground.phase }, { on := 5, ground := Ground.phase }, { on := 6, ground := Ground.phase }, { on := 7, ground := Ground.phase }, { on := 8, ground := Ground.phase }, { on := 9, ground := Ground.phase }, { on := 10, ground := Ground.phase }, { on := 11, ground := Ground.phase }, { on := 12, ground := Ground.phase }, { on := 13, ground := Ground.phase }, { on := 14, ground := Ground.phase }, { on := 15, ground := Ground.phase }, { on := 16, ground := Ground.phase }, { on := 17, ground := Ground.phase }, { on := 18, ground := Ground.phase }, { on := 19, ground := Ground.phase }, { on := 20, ground := Ground.phase }, { on := 21, ground := Ground.phase }, { on := 22, ground := Ground.phase }, { on := 23, ground := Ground.phase }, { on := 24, ground := Ground.phase }, { on := 25, ground := Ground.phase }, { on := 26, ground := Ground.phase }, { on := 27, ground := Ground.phase }, { on := 28, ground := Ground.phase }], guard := none }) (v := ?_) rfl (by kernel_rfl) (by kernel_rfl) (by kernel_rfl) (fun _ _ _ h => h) (Or.inl ⟨by rfl, ?_⟩) (Below.refl _ _) ?_
  rotate_left
  · (intro w1 hS; go_simp; try with_reducible rfl)
  simp only [Act.put, List.setIfInBounds_toArray, List.set_cons_zero, List.set_cons_succ]
  refine wpAnyH_done (by kernel_rfl) ?_ _
  have hy := E2.out
  replace K := Lib.hid (K.out.trans (hy.mono K.out.size))
  replace NK := Lib.hid (NK.out.below hy NK.out.lt)
  replace NT := Lib.hid (NT.out.below hy NT.out.lt)
  replace O := Lib.hid (O.out.below hy)
  replace NH := Lib.hid (NH.out.below hy NH.out.lt)
  replace R := Lib.hid (R.out.below hy)
  replace NC := Lib.hid (NC.out.below hy NC.out.lt)
  clear hy E2
  generalize (if cc = 40 then some (⟨gc, 0, none⟩ : Addr) else some ⟨gc, 40, none⟩) = z1
  generalize (if cb = 40 then some (⟨gb, 0, none⟩ : Addr) else some ⟨gb, 40, none⟩) = z2
  go_wp2
  go_ret
  exact ⟨rfl, K.out⟩
end Go.Proofs.Ytnfanenaighflaa

