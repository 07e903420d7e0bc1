/- Texts that the walks of this seat lean on, put together: each has its own remark below. -/
import Derived.Test.YtnfanenaighflaaM01
import Derived.Test.YtnfanenaighflaaM09

/- The walk of SixCut. -/
namespace Go.Proofs.Ytnfanenaighflaa
open Go.RowKit

theorem mk6_front (s d data : List Nat) (p n c : Nat) (hs : s.length = 16) (hd : d.length = 16) (hc : 40 ≤ c) : (mk6 s d p n ++ data).take c = mk6 s d p n ++ data.take (c - 40) := by
  rw [List.take_append, mk6_length s d hs hd, List.take_of_length_le (by rw [mk6_length s d hs hd]; omega)]

set_option maxRecDepth 100000 in
set_option maxHeartbeats 8000000 in
theorem cut6 (n k : Int) (a b : Option Addr) (la P ca cb0 : Nat) (zs ms : List Nat) (w : World) (hr1 : Rd w (.slice a la ca) (nus .u8 zs)) (hL : zs.length = la) (hna : a = none → ca = 0) (hb1 : ∀ c ∈ zs, c < 256)
    (hr2 : Rd w (.slice b P cb0) (nus .u8 ms)) (hP : ms.length = P) (hnb : b = none → cb0 = 0) (hb2 : ∀ c ∈ ms, c < 256) :
    Calls Try.prog 6 #[.int .i64 n, .slice a la ca, .slice b P cb0, .int .i64 k] w fun e w' => e = .returned (.bool true) ∧ Below w.heap.size w w' := by
  have HR1 := Lib.hid hr1
  have HR2 := Lib.hid hr2
  have hLm : la ≤ ca ∧ ca ≤ maxLen := by obtain ⟨a', c', e, h1, h2⟩ := rd_shape hr1; cases e; omega
  have hPm : P ≤ cb0 ∧ cb0 ≤ maxLen := by obtain ⟨a', c', e, h1, h2⟩ := rd_shape hr2; cases e; omega
  unfold maxLen at hLm hPm
  have K := Lib.hid (Below.refl w.heap.size w)
  by_cases h300 : 300 < la
  · clear hr1 hr2 HR1 HR2
    go_enter Try.func6, Try.ntmps6
    have hd1 : decide ((300 : Int) < (la : Int)) = true := decide_eq_true (by omega)
    go_wp2_with fail
    refine (awake_any _).mono ?_
    rintro e V1 ⟨rfl, hy⟩
    replace K := Lib.hid (K.out.trans (hy.mono K.out.size))
    clear hy
    go_wp2
    go_ret
    exact ⟨rfl, K.out⟩
  have hd1 : decide ((300 : Int) < (la : Int)) = false := decide_eq_false (by omega)
  by_cases h50 : 50 < P
  · clear hr1 hr2 HR1 HR2
    go_enter Try.func6, Try.ntmps6
    have hd2 : decide ((50 : Int) < (P : Int)) = true := decide_eq_true (by omega)
    go_wp2_with fail
    refine (awake_any _).mono ?_
    rintro e V1 ⟨rfl, hy⟩
    replace K := Lib.hid (K.out.trans (hy.mono K.out.size))
    clear hy
    go_wp2
    go_ret
    exact ⟨rfl, K.out⟩
  have hd2 : decide ((50 : Int) < (P : Int)) = false := decide_eq_false (by omega)
  obtain ⟨u, hu⟩ : ∃ u : Nat, u = (n % 1073741824).toNat := ⟨_, rfl⟩
  have hun : n % 1073741824 = (u : Int) := by omega
  have hul : u < 1073741824 := by omega
  obtain ⟨N, hN⟩ : ∃ N : Nat, N = 40 + la + P := ⟨_, rfl⟩
  obtain ⟨q, hq⟩ : ∃ q : Nat, q = (k % ((N : Int) + 1)).toNat := ⟨_, rfl⟩
  have hk1 := Int.emod_nonneg k (show ((N : Int) + 1) ≠ 0 by omega)
  have hk2 := Int.emod_lt_of_pos k (show 0 < ((N : Int) + 1) by omega)
  have hqm : k % ((N : Int) + 1) = (q : Int) := by omega
  have hql : q ≤ N := by omega
  clear hk1 hk2
  obtain ⟨s, hs⟩ : ∃ s, s = kS u ++ List.replicate 12 0 := ⟨_, rfl⟩
  obtain ⟨d, hd⟩ : ∃ d, d = kD ++ List.replicate 12 0 := ⟨_, rfl⟩
  have ls : s.length = 16 := by rw [hs]; rfl
  have ld : d.length = 16 := by rw [hd]; rfl
  have bs : ∀ c ∈ s, c < 256 := by
    rw [hs]; intro c hc; rcases List.mem_append.1 hc with h | h
    · exact kS_lt u c h
    · have := (List.mem_replicate.1 h).2; omega
  have bd : ∀ c ∈ d, c < 256 := by
    rw [hd]; intro c hc; rcases List.mem_append.1 hc with h | h
    · exact (show ∀ c ∈ kD, c < 256 by decide) c h
    · have := (List.mem_replicate.1 h).2; omega
  obtain ⟨S, hS⟩ : ∃ S, S = cellsA true s := ⟨_, rfl⟩
  obtain ⟨D, hD⟩ : ∃ D, D = cellsA true d := ⟨_, rfl⟩
  have zS : S.size = 17 := by rw [hS, cellsA_size, ls]
  have zD : D.size = 17 := by rw [hD, cellsA_size, ld]
  obtain ⟨kc, hkc⟩ : ∃ kc, kc = kcells 6 S D (1000 + u % 50000) 80 := ⟨_, rfl⟩
  obtain ⟨M, hM⟩ : ∃ M, M = mk6 s d 6 la := ⟨_, rfl⟩
  have lM : M.length = 40 := by rw [hM, mk6_length s d ls ld]
  have bM : ∀ c ∈ M, c < 256 := by rw [hM]; exact mk6_lt s d 6 la bs bd (by omega)
  obtain ⟨B, hB⟩ : ∃ B, B = M ++ zs ++ ms := ⟨_, rfl⟩
  have lB : B.length = N := by rw [hB, List.length_append, List.length_append, lM, hL, hP, hN]
  have bB : ∀ c ∈ B, c < 256 := by
    rw [hB]; intro c hc
    rcases List.mem_append.1 hc with h | h
    · rcases List.mem_append.1 h with h | h
      · exact bM c h
      · exact hb1 c h
    · exact hb2 c h
  have cutY : q < 40 + la → f6 (B.take q) = 1 := fun h => by rw [hB, List.append_assoc, hM]; exact mk6_cut s d (zs ++ ms) 6 la ls ld (by omega) q h (by rw [List.length_append, hL, hP]; omega)
  have cutN : ¬ q < 40 + la → f6 (B.take q) = 0 ∧ hd6 (B.take q) = scells (40 + la) 6 S D := fun h => by
    have hx : la ≤ ((zs ++ ms).take (q - 40)).length := by rw [List.length_take, List.length_append, hL, hP]; omega
    rw [hB, List.append_assoc, hM, mk6_front s d _ 6 la q ls ld (by omega), hS, hD]
    exact ⟨mk6_f s d _ 6 la ls ld (by omega) (.inl rfl) hx, mk6_hd s d _ 6 la ls ld (by omega) (.inl rfl) hx⟩
  have CK := Lib.hid (show ∀ W, Calls Try.prog 15 #[.int .i64 n, .bool true, .bool false] W fun e w' => e = .returned (.agg kc) ∧ Below W.heap.size W w' from fun W => by rw [hkc, hS, hD, hs, hd]; exact key_tcp n true u _ W hun hul rfl)
  have CM := Lib.hid (show ∀ W, Calls Try.prog 11 #[.agg S, .agg D, .int .u8 6, .int .i64 (la : Int)] W fun e w' => ∃ x, e = .returned (.tuple #[x, .bool true]) ∧ w'.ownsRow W.heap.size 5 1 x 40 (nus .u8 M) ∧ Below W.heap.size W w' from fun W => by rw [hS, hD, hM]; exact make_yes s d 6 la W ls ld (by omega))
  have CN := Lib.hid (fun W => round_any k ((N : Int) + 1) W (by omega) (by omega))
  rw [hqm] at CN
  have CR := Lib.hid (fun W z (h : Rd W z (nus .u8 (B.take q))) => read_any z (B.take q) W h (fun c hc => bB c (List.mem_of_mem_take hc)))
  have HCY := Lib.hid cutY
  have HCN := Lib.hid cutN
  have QS := Lib.hid (fun W => eq_cells true s ls bs S hS W)
  have QS0 := Lib.hid eq_s0
  have kp1 := Lib.hid (show (kc.toList.drop 1).take S.toList.length = S.toList by rw [hkc]; exact kcells_src _ _ _ _ _)
  have kp2 := Lib.hid (show (kc.toList.drop 18).take D.toList.length = D.toList by rw [hkc]; exact kcells_dst _ _ _ _ _ zS)
  obtain ⟨hc1, hhc⟩ : ∃ c, c = scells (40 + la) 6 S D := ⟨_, rfl⟩
  rw [← hhc] at HCN
  have hp1 := Lib.hid (show (hc1.toList.drop 2).take S.toList.length = S.toList by rw [hhc]; exact scells_src _ _ _ _)
  have hg0 := Lib.hid (show hc1[0]? = some (.int .i64 ((40 + la : Nat) : Int)) by rw [hhc]; rfl)
  have IS := Lib.hid (i24.trans (congrArg some (show (17 : Nat) = S.toList.length by simp [zS])))
  have ID := Lib.hid (i24.trans (congrArg some (show (17 : Nat) = D.toList.length by simp [zD])))
  have zk : kc.size = 37 := by rw [hkc]; exact kcells_size _ _ _ _ _ zS zD
  have zc : hc1.size = 36 := by rw [hhc]; exact scells_size _ _ _ _ zS zD
  have AS : S.all (·.oneCell') = true := by rw [hS]; exact cellsA_all _ _
  have AD : D.all (·.oneCell') = true := by rw [hD]; exact cellsA_all _ _
  have Ak := Lib.hid (show kc.all (·.oneCell') = true by rw [hkc]; exact kcells_all _ _ _ _ _ AS AD)
  have Zk := Lib.hid (i42.trans (congrArg some zk.symm))
  have Yk : Hid (kc.size = Array.size (#[Value.int .u8 0, .bool false, .int .u8 0, .int .u8 0, .int .u8 0, .int .u8 0, .int .u8 0, .int .u8 0, .int .u8 0, .int .u8 0, .int .u8 0, .int .u8 0, .int .u8 0, .int .u8 0, .int .u8 0, .int .u8 0, .int .u8 0, .int .u8 0, .bool false, .int .u8 0, .int .u8 0, .int .u8 0, .int .u8 0, .int .u8 0, .int .u8 0, .int .u8 0, .int .u8 0, .int .u8 0, .int .u8 0, .int .u8 0, .int .u8 0, .int .u8 0, .int .u8 0, .int .u8 0, .int .u8 0, .int .u16 0, .int .u16 0] : Array Value)) := zk
  have Ac := Lib.hid (show hc1.all (·.oneCell') = true by rw [hhc]; exact scells_all _ _ _ _ AS AD)
  have Zc := Lib.hid (i36.trans (congrArg some zc.symm))
  have Yc : Hid (hc1.size = Array.size (#[Value.int .i64 0, .int .u8 0, .bool false, .int .u8 0, .int .u8 0, .int .u8 0, .int .u8 0, .int .u8 0, .int .u8 0, .int .u8 0, .int .u8 0, .int .u8 0, .int .u8 0, .int .u8 0, .int .u8 0, .int .u8 0, .int .u8 0, .int .u8 0, .int .u8 0, .bool false, .int .u8 0, .int .u8 0, .int .u8 0, .int .u8 0, .int .u8 0, .int .u8 0, .int .u8 0, .int .u8 0, .int .u8 0, .int .u8 0, .int .u8 0, .int .u8 0, .int .u8 0, .int .u8 0, .int .u8 0, .int .u8 0] : Array Value)) := zc
  have Z0 := Lib.hid (i36.trans (congrArg some s0_size.symm))
  have Y0 : Hid (s0.size = Array.size (#[Value.int .i64 0, .int .u8 0, .bool false, .int .u8 0, .int .u8 0, .int .u8 0, .int .u8 0, .int .u8 0, .int .u8 0, .int .u8 0, .int .u8 0, .int .u8 0, .int .u8 0, .int .u8 0, .int .u8 0, .int .u8 0, .int .u8 0, .int .u8 0, .int .u8 0, .bool false, .int .u8 0, .int .u8 0, .int .u8 0, .int .u8 0, .int .u8 0, .int .u8 0, .int .u8 0, .int .u8 0, .int .u8 0, .int .u8 0, .int .u8 0, .int .u8 0, .int .u8 0, .int .u8 0, .int .u8 0, .int .u8 0] : Array Value)) := s0_size
  have A0 := Lib.hid s0_all
  have HB := Lib.hid (hB.trans (List.append_assoc _ _ _))
  have LB := Lib.hid lB
  have HN := Lib.hid hN
  have ls1 : IntKind.i64.wrap ((N : Int) + 1) = (N : Int) + 1 := by rw [IntKind.wrap_i64]; omega
  clear hr1 hr2 hL hP hb1 hb2 hu hun hul hq hqm hs hd ls ld bs bd hS hD zS zD hkc hM lM bM bB lB cutY cutN hhc zk zc AS AD hB
  go_enter Try.func6, Try.ntmps6
  go_wp2_with fail
  refine (CK.out _).mono ?_
  rintro e V1 ⟨rfl, hy⟩
  replace K := Lib.hid (K.out.trans (hy.mono K.out.size))
  replace HR1 := Lib.hid (HR1.out.below hy)
  replace HR2 := Lib.hid (HR2.out.below hy)
  clear hy
  go_wp2_with (((with_reducible refine wpList_blk_store (op := ⟨none, .store 42 (.tmp 9) (.tmp 26), _, _, _, _⟩) ?sg1 42 (.tmp 9) (.tmp 26) ?so1 (V1.heap.size) kc ?sx1 ?sy1 (Blk.new V1 42 #[Value.int .u8 0, .bool false, .int .u8 0, .int .u8 0, .int .u8 0, .int .u8 0, .int .u8 0, .int .u8 0, .int .u8 0, .int .u8 0, .int .u8 0, .int .u8 0, .int .u8 0, .int .u8 0, .int .u8 0, .int .u8 0, .int .u8 0, .int .u8 0, .bool false, .int .u8 0, .int .u8 0, .int .u8 0, .int .u8 0, .int .u8 0, .int .u8 0, .int .u8 0, .int .u8 0, .int .u8 0, .int .u8 0, .int .u8 0, .int .u8 0, .int .u8 0, .int .u8 0, .int .u8 0, .int .u8 0, .int .u16 0, .int .u16 0]) Yk.out Zk.out Ak.out ?_); (case sg1 => rfl); (case so1 => rfl); (case sx1 => rfl); (case sy1 => rfl)))
  intro V2 hA hF hB
  have hy := ((Below.refl V1.heap.size V1).alloc (Nat.le_refl _) (.cells #[Value.int .u8 0, .bool false, .int .u8 0, .int .u8 0, .int .u8 0, .int .u8 0, .int .u8 0, .int .u8 0, .int .u8 0, .int .u8 0, .int .u8 0, .int .u8 0, .int .u8 0, .int .u8 0, .int .u8 0, .int .u8 0, .int .u8 0, .int .u8 0, .bool false, .int .u8 0, .int .u8 0, .int .u8 0, .int .u8 0, .int .u8 0, .int .u8 0, .int .u8 0, .int .u8 0, .int .u8 0, .int .u8 0, .int .u8 0, .int .u8 0, .int .u8 0, .int .u8 0, .int .u8 0, .int .u8 0, .int .u16 0, .int .u16 0] 42)).trans (hB _ (Nat.le_refl _))
  replace K := Lib.hid (K.out.trans (hy.mono K.out.size))
  replace HR1 := Lib.hid (HR1.out.below hy)
  replace HR2 := Lib.hid (HR2.out.below hy)
  have NK := Lib.hid hA
  clear hA hF hB hy
  have L2 : (loadVar 25 ⟨V1.heap.size, 1, none⟩).run Try.prog V2 = .ok (.agg S) V2 := by have h := run_part_load (P := Try.prog) 25 1 S.toList _ NK.out kp1.out Try.underlying25 rfl IS.out; rwa [Array.toArray_toList] at h
  replace L2 := Lib.hid L2
  have L3 : (loadVar 25 ⟨V1.heap.size, 18, none⟩).run Try.prog V2 = .ok (.agg D) V2 := by have h := run_part_load (P := Try.prog) 25 18 D.toList _ NK.out kp2.out Try.underlying25 rfl ID.out; rwa [Array.toArray_toList] at h
  replace L3 := Lib.hid L3
  go_wp2_with (first | ((with_reducible refine wpList_load_want (op := ⟨some 29, .load 25 (.tmp 28), _, _, _, _⟩) ?wg2 25 (.tmp 28) ?wo2 ⟨V1.heap.size, 1, none⟩ ?wx2 (.agg S) L2.out ?_); (case wg2 => rfl); (case wo2 => rfl); (case wx2 => rfl)) | ((with_reducible refine wpList_load_want (op := ⟨some 31, .load 25 (.tmp 30), _, _, _, _⟩) ?wg3 25 (.tmp 30) ?wo3 ⟨V1.heap.size, 18, none⟩ ?wx3 (.agg D) L3.out ?_); (case wg3 => rfl); (case wo3 => rfl); (case wx3 => rfl)))
  clear L2 L3
  refine (CM.out _).mono ?_
  rintro e V3 ⟨x, rfl, ox, hy⟩
  replace K := Lib.hid (K.out.trans (hy.mono K.out.size))
  replace HR1 := Lib.hid (HR1.out.below hy)
  replace HR2 := Lib.hid (HR2.out.below hy)
  replace NK := Lib.hid (NK.out.below hy NK.out.lt)
  have R := Lib.hid (Rd.own ox)
  obtain ⟨gx, cx, rfl, hcx, hcxm, -, -⟩ := own_at ox (by omega)
  clear ox
  clear hy
  have L := Lib.hid (Below.refl V3.heap.size V3)
  have hal := (Below.refl V3.heap.size V3).alloc (Nat.le_refl _) (.cells #[] 5)
  have O := Lib.hid (own_low (b1 := V3.heap.size) L.out.size (own_none V3 5))
  replace L := Lib.hid (L.out.trans (hal.mono L.out.size))
  clear hal
  go_wp2_with ((at_builtin; refine wpList_app rfl (.tmp 44) (.tmp 45) rfl V3.heap.size _ (0) [] rfl O.out (some ⟨gx, 0, none⟩) (40) (cx) M rfl (R.out.below L.out) (by intro e; cases e) ?ap4b ?ap4c ?ap4d))
  case ap4b => omega
  case ap4c => exact L.out.size
  intro vx V4 oz gz
  replace L := Lib.hid (L.out.grown gz L.out.size (fun k e => by first | exact (O.out.lt k e).1 | (cases e; first | exact Nat.le_refl _ | omega)))
  have oz : V4.ownsRow V3.heap.size 5 1 vx (40) (nus .u8 (M)) := by first | exact oz | simpa using oz
  replace O := Lib.hid oz
  obtain ⟨g1, cq1, rfl, hcq1, hcq1m, hg1, hg1u⟩ := own_at O.out (by omega)
  clear oz gz
  go_wp2_with ((at_builtin; refine wpList_app rfl (.tmp 46) (.tmp 47) rfl V3.heap.size _ (40) M rfl O.out (a) (la) (ca) zs rfl (HR1.out.below L.out) hna ?ap5b ?ap5c ?ap5d))
  case ap5b => omega
  case ap5c => exact L.out.size
  intro vx V5 oz gz
  replace L := Lib.hid (L.out.grown gz L.out.size (fun k e => by first | exact (O.out.lt k e).1 | (cases e; first | exact Nat.le_refl _ | omega)))
  replace O := Lib.hid oz
  obtain ⟨g2, cq2, rfl, hcq2, hcq2m, hg2, hg2u⟩ := own_at O.out (by omega)
  clear oz gz
  go_wp2_with ((at_builtin; refine wpList_app rfl (.tmp 48) (.tmp 49) rfl V3.heap.size _ (40 + la) (M ++ zs) rfl O.out (b) (P) (cb0) ms rfl (HR2.out.below L.out) hnb ?ap6b ?ap6c ?ap6d))
  case ap6b => omega
  case ap6c => exact L.out.size
  intro vx V6 oz gz
  replace L := Lib.hid (L.out.grown gz L.out.size (fun k e => by first | exact (O.out.lt k e).1 | (cases e; first | exact Nat.le_refl _ | omega)))
  replace O := Lib.hid oz
  obtain ⟨gb, cb, rfl, hcb, hcbm, hgb, hgbu⟩ := own_at O.out (by omega)
  clear oz gz
  clear R
  have hy := L.out
  replace K := Lib.hid (K.out.trans (hy.mono K.out.size))
  replace HR1 := Lib.hid (HR1.out.below hy)
  replace HR2 := Lib.hid (HR2.out.below hy)
  replace NK := Lib.hid (NK.out.below hy NK.out.lt)
  clear hy L
  have O2 := Rd.own O.out
  try rw [List.append_assoc] at O2
  rw [← HB.out] at O2
  clear O
  have O := Lib.hid O2
  clear O2
  have hNN := HN.out
  clear HN
  subst hNN
  clear HR1 HR2
  go_wp2_with fail
  refine (CN.out _).mono ?_
  rintro e V7 ⟨rfl, rfl⟩
  have F := Lib.hid (O.out.front q (by rw [LB.out]; omega))
  by_cases hcq : q < 40 + la
  · have hdq : decide ((q : Int) < ((40 + la : Nat) : Int)) = true := decide_eq_true (by omega)
    have CR2 := CR.out
    have hf := HCY.out hcq
    rw [hf, show hd6 (B.take q) = s0 from by unfold hd6; rw [if_neg (by rw [hf]; decide)]] at CR2
    replace CR2 := Lib.hid CR2
    clear hf CR
    go_wp2_with fail
    refine (CR2.out _ _ F.out).mono ?_
    rintro e V8 ⟨rfl, hy⟩
    replace K := Lib.hid (K.out.trans (hy.mono K.out.size))
    replace NK := Lib.hid (NK.out.below hy NK.out.lt)
    replace O := Lib.hid (O.out.below hy)
    replace F := Lib.hid (F.out.below hy)
    clear hy
    go_wp2_with (((with_reducible refine wpList_blk_store (op := ⟨none, .store 29 (.tmp 14) (.tmp 61), _, _, _, _⟩) ?sg7 29 (.tmp 14) (.tmp 61) ?so7 (V8.heap.size) s0 ?sx7 ?sy7 (Blk.new V8 29 #[Value.int .i64 0, .int .u8 0, .bool false, .int .u8 0, .int .u8 0, .int .u8 0, .int .u8 0, .int .u8 0, .int .u8 0, .int .u8 0, .int .u8 0, .int .u8 0, .int .u8 0, .int .u8 0, .int .u8 0, .int .u8 0, .int .u8 0, .int .u8 0, .int .u8 0, .bool false, .int .u8 0, .int .u8 0, .int .u8 0, .int .u8 0, .int .u8 0, .int .u8 0, .int .u8 0, .int .u8 0, .int .u8 0, .int .u8 0, .int .u8 0, .int .u8 0, .int .u8 0, .int .u8 0, .int .u8 0, .int .u8 0]) Y0.out Z0.out A0.out ?_); (case sg7 => rfl); (case so7 => rfl); (case sx7 => rfl); (case sy7 => rfl)))
    have qNKNH : V1.heap.size < V8.heap.size := NK.out.lt
    intro V9 hA hF hB
    have hy := ((Below.refl V8.heap.size V8).alloc (Nat.le_refl _) (.cells #[Value.int .i64 0, .int .u8 0, .bool false, .int .u8 0, .int .u8 0, .int .u8 0, .int .u8 0, .int .u8 0, .int .u8 0, .int .u8 0, .int .u8 0, .int .u8 0, .int .u8 0, .int .u8 0, .int .u8 0, .int .u8 0, .int .u8 0, .int .u8 0, .int .u8 0, .bool false, .int .u8 0, .int .u8 0, .int .u8 0, .int .u8 0, .int .u8 0, .int .u8 0, .int .u8 0, .int .u8 0, .int .u8 0, .int .u8 0, .int .u8 0, .int .u8 0, .int .u8 0, .int .u8 0, .int .u8 0, .int .u8 0] 29)).trans (hB _ (Nat.le_refl _))
    replace K := Lib.hid (K.out.trans (hy.mono K.out.size))
    replace NK := Lib.hid (NK.out.below hy NK.out.lt)
    replace O := Lib.hid (O.out.below hy)
    replace F := Lib.hid (F.out.below hy)
    have NH := Lib.hid hA
    clear hA hF hB hy
    have QH := QS0.out
    have L8 : (loadVar 29 ⟨V8.heap.size, 0, none⟩).run Try.prog V9 = .ok (.agg s0) V9 := run_blk_load (P := Try.prog) 29 (V8.heap.size) _ NH.out Try.underlying29 rfl Z0.out
    replace L8 := Lib.hid L8
    go_wp2_with (((with_reducible refine wpList_load_want (op := ⟨some 71, .load 29 (.tmp 14), _, _, _, _⟩) ?wg8 29 (.tmp 14) ?wo8 ⟨V8.heap.size, 0, none⟩ ?wx8 (.agg s0) L8.out ?_); (case wg8 => rfl); (case wo8 => rfl); (case wx8 => rfl)))
    clear L8
    refine (awake_any _).mono ?_
    rintro e V10 ⟨rfl, hy⟩
    replace K := Lib.hid (K.out.trans (hy.mono K.out.size))
    replace NK := Lib.hid (NK.out.below hy NK.out.lt)
    replace O := Lib.hid (O.out.below hy)
    replace F := Lib.hid (F.out.below hy)
    replace NH := Lib.hid (NH.out.below hy NH.out.lt)
    clear hy
    go_wp2
    go_ret
    exact ⟨rfl, K.out⟩
  · have hdq : decide ((q : Int) < ((40 + la : Nat) : Int)) = false := decide_eq_false (by omega)
    have CR2 := CR.out
    obtain ⟨hf, hh⟩ := HCN.out hcq
    rw [hf, hh] at CR2
    clear hh
    replace CR2 := Lib.hid CR2
    clear hf CR
    go_wp2_with fail
    refine (CR2.out _ _ F.out).mono ?_
    rintro e V8 ⟨rfl, hy⟩
    replace K := Lib.hid (K.out.trans (hy.mono K.out.size))
    replace NK := Lib.hid (NK.out.below hy NK.out.lt)
    replace O := Lib.hid (O.out.below hy)
    replace F := Lib.hid (F.out.below hy)
    clear hy
    go_wp2_with (((with_reducible refine wpList_blk_store (op := ⟨none, .store 29 (.tmp 14) (.tmp 61), _, _, _, _⟩) ?sg9 29 (.tmp 14) (.tmp 61) ?so9 (V8.heap.size) hc1 ?sx9 ?sy9 (Blk.new V8 29 #[Value.int .i64 0, .int .u8 0, .bool false, .int .u8 0, .int .u8 0, .int .u8 0, .int .u8 0, .int .u8 0, .int .u8 0, .int .u8 0, .int .u8 0, .int .u8 0, .int .u8 0, .int .u8 0, .int .u8 0, .int .u8 0, .int .u8 0, .int .u8 0, .int .u8 0, .bool false, .int .u8 0, .int .u8 0, .int .u8 0, .int .u8 0, .int .u8 0, .int .u8 0, .int .u8 0, .int .u8 0, .int .u8 0, .int .u8 0, .int .u8 0, .int .u8 0, .int .u8 0, .int .u8 0, .int .u8 0, .int .u8 0]) Yc.out Zc.out Ac.out ?_); (case sg9 => rfl); (case so9 => rfl); (case sx9 => rfl); (case sy9 => rfl)))
    have qNKNH : V1.heap.size < V8.heap.size := NK.out.lt
    intro V9 hA hF hB
    have hy := ((Below.refl V8.heap.size V8).alloc (Nat.le_refl _) (.cells #[Value.int .i64 0, .int .u8 0, .bool false, .int .u8 0, .int .u8 0, .int .u8 0, .int .u8 0, .int .u8 0, .int .u8 0, .int .u8 0, .int .u8 0, .int .u8 0, .int .u8 0, .int .u8 0, .int .u8 0, .int .u8 0, .int .u8 0, .int .u8 0, .int .u8 0, .bool false, .int .u8 0, .int .u8 0, .int .u8 0, .int .u8 0, .int .u8 0, .int .u8 0, .int .u8 0, .int .u8 0, .int .u8 0, .int .u8 0, .int .u8 0, .int .u8 0, .int .u8 0, .int .u8 0, .int .u8 0, .int .u8 0] 29)).trans (hB _ (Nat.le_refl _))
    replace K := Lib.hid (K.out.trans (hy.mono K.out.size))
    replace NK := Lib.hid (NK.out.below hy NK.out.lt)
    replace O := Lib.hid (O.out.below hy)
    replace F := Lib.hid (F.out.below hy)
    have NH := Lib.hid hA
    clear hA hF hB hy
    have QH := QS.out
    have L10 := (NH.out.cell 0).trans hg0.out
    have L11 : (loadVar 25 ⟨V8.heap.size, 2, none⟩).run Try.prog V9 = .ok (.agg S) V9 := by have h := run_part_load (P := Try.prog) 25 2 S.toList _ NH.out hp1.out Try.underlying25 rfl IS.out; rwa [Array.toArray_toList] at h
    replace L11 := Lib.hid L11
    have L12 : (loadVar 25 ⟨V1.heap.size, 1, none⟩).run Try.prog V9 = .ok (.agg S) V9 := by have h := run_part_load (P := Try.prog) 25 1 S.toList _ NK.out kp1.out Try.underlying25 rfl IS.out; rwa [Array.toArray_toList] at h
    replace L12 := Lib.hid L12
    go_wp2_with (first | ((with_reducible refine wpList_load_want (op := ⟨some 90, .load 25 (.tmp 89), _, _, _, _⟩) ?wg11 25 (.tmp 89) ?wo11 ⟨V8.heap.size, 2, none⟩ ?wx11 (.agg S) L11.out ?_); (case wg11 => rfl); (case wo11 => rfl); (case wx11 => rfl)) | ((with_reducible refine wpList_load_want (op := ⟨some 92, .load 25 (.tmp 91), _, _, _, _⟩) ?wg12 25 (.tmp 91) ?wo12 ⟨V1.heap.size, 1, none⟩ ?wx12 (.agg S) L12.out ?_); (case wg12 => rfl); (case wo12 => rfl); (case wx12 => rfl)))
    clear L10 L11 L12
    refine (awake_any _).mono ?_
    rintro e V10 ⟨rfl, hy⟩
    replace K := Lib.hid (K.out.trans (hy.mono K.out.size))
    replace NK := Lib.hid (NK.out.below hy NK.out.lt)
    replace O := Lib.hid (O.out.below hy)
    replace F := Lib.hid (F.out.below hy)
    replace NH := Lib.hid (NH.out.below hy NH.out.lt)
    clear hy
    go_wp2
    go_ret
    exact ⟨rfl, K.out⟩
end Go.Proofs.Ytnfanenaighflaa

