/- Texts that the walks of this seat lean on, put together: each has its own remark below. -/
import Derived.Test.YthjaolngfjfldaaM01
import Derived.Test.YthjaolngfjfldaaM06
import Derived.Test.YthjaolngfjfldaaM09
import Derived.Test.YthjaolngfjfldaaM11

/- The walk of FourDests. -/
namespace Go.Proofs.Ythjaolngfjfldaa
open Go.RowKit

theorem subP {w : World} {b off len cap : Nat} {k : IntKind} {bs : List Nat} (h : Rd w (.slice (some ⟨b, off, none⟩) len cap) (nus k bs)) (j m : Nat) (hc : j + m ≤ len) :
    Rd w (.slice (if cap = j then some ⟨b, off, none⟩ else some ⟨b, off + j, none⟩) m (cap - j)) (nus k ((bs.drop j).take m)) := by
  by_cases he : cap = j
  · rw [if_pos he]
    have h1 := h
    obtain ⟨a', cap', e, h1, h2, h3⟩ := h1
    simp only [Value.slice.injEq] at e
    obtain ⟨-, rfl, rfl⟩ := e
    have hm : m = 0 := by omega
    subst hm
    exact ⟨some ⟨b, off, none⟩, cap - j, by simp [nus], by simp [nus], by omega, .inl (by simp [nus])⟩
  · rw [if_neg he]; exact h.sub j m hc

set_option maxRecDepth 100000 in
set_option maxHeartbeats 4000000 in
theorem dests_walk (n m : Int) (a : Option Addr) (L cap : Nat) (zs : List Nat) (w : World) (hr : Rd w (.slice a L cap) (nus .u8 zs)) (hL : zs.length = L) (hna : a = none → cap = 0) (hb : ∀ c ∈ zs, c < 256) :
    Calls Try.prog 4 #[.int .i64 n, .int .i64 m, .slice a L cap] w fun e w' => e = .returned (.bool true) ∧ Below w.heap.size w w' := by
  have HR := Lib.hid hr
  have hLm : L ≤ cap ∧ cap ≤ maxLen := by obtain ⟨a', c', e, h1, h2⟩ := rd_shape hr; cases e; omega
  by_cases h500 : 500 < L
  · unfold maxLen at hLm
    clear hr
    go_enter Try.func4, Try.ntmps4
    go_wp2_with fail
    refine (awake_any _).mono ?_
    rintro e w1 ⟨rfl, hy⟩
    go_wp2
    go_ret
    exact ⟨rfl, hy⟩
  obtain ⟨u, hu⟩ : ∃ u : Nat, u = (n % 1073741824).toNat := ⟨_, rfl⟩
  have hun : n % 1073741824 = (u : Int) := by omega
  have hul : u < 1073741824 := by omega
  obtain ⟨q, hq⟩ : ∃ q : Nat, q = (m % 200).toNat := ⟨_, rfl⟩
  have hqm : m % 200 = (q : Int) := by omega
  have hql : q < 200 := by omega
  obtain ⟨pt, hpt⟩ : ∃ pt : Nat, pt = 8000 + (m % 1000).toNat := ⟨_, rfl⟩
  have hpm : m % 1000 = (pt : Int) - 8000 := by omega
  have hkS : (kS u).length = 4 := rfl
  have hkD : kD.length = 4 := rfl
  have hdB : (dB q).length = 4 := rfl
  have bS : ∀ c ∈ kS u, c < 256 := by simp [kS]; omega
  have bD : ∀ c ∈ kD, c < 256 := by decide
  have bT : ∀ c ∈ dB q, c < 256 := by simp [dB]; omega
  obtain ⟨f1, f2, f3, f4, f5, f6, f7, f8⟩ := mk_read (kS u) kD zs 6 L hkS hkD hL (by omega) (.inl rfl)
  have bM : ∀ c ∈ mk4 (kS u) kD 6 L, c < 256 := ov_lt _ _ _ (mk0_lt _ _ _ _ bS bD (by omega)) (bg_lt _ _)
  obtain ⟨B, hB⟩ : ∃ B, B = mk4 (kS u) kD 6 L ++ zs := ⟨_, rfl⟩
  rw [← hB] at f1 f2 f3 f4 f5 f6 f7 f8
  have bB' : ∀ c ∈ B, c < 256 := by
    rw [hB]; intro c hc
    rcases List.mem_append.1 hc with h | h
    · exact bM c h
    · exact hb c h
  obtain ⟨C, hC⟩ : ∃ C, C = dst4 B (dB q) := ⟨_, rfl⟩
  have c1 : ff C = 0 := by rw [hC]; exact dst_ff f1 hdB bB'
  have c2 : hd C = hcells 20 (20 + L) 6 (a4 (kS u)) (a4 (dB q)) := by rw [hC, hd_dst B (dB q) f1 hdB bB', f4, f5, f6, f7]
  have c3 : C.length = 20 + L := by rw [hC, dst_length f1 hdB, f8]
  have bC : ∀ c ∈ C, c < 256 := by rw [hC]; exact dst_lt bB' bT
  have c4 : C.take 10 = B.take 10 := by rw [hC]; exact dst_take f1 hdB 10 (by omega)
  have c5 : (C.drop 12).take 4 = (B.drop 12).take 4 := by rw [hC]; exact dst_src f1 hdB
  have c6 : C.drop 20 = B.drop 20 := by rw [hC]; exact dst_drop f1 hdB 20 (by omega)
  obtain ⟨D, hD⟩ : ∃ D, D = dst4 C kD := ⟨_, rfl⟩
  have d3 : D.length = 20 + L := by rw [hD, dst_length c1 hkD, c3]
  have d4 : D.take 10 = B.take 10 := by rw [hD, dst_take c1 hkD 10 (by omega), c4]
  have d6 : D.drop 12 = B.drop 12 := by rw [hD, hC]; exact back_drop B (dB q) f1 hdB bB' kD hkD f3
  obtain ⟨Sa, hSa⟩ : ∃ x, x = a4 (kS u) := ⟨_, rfl⟩
  obtain ⟨Da, hDa⟩ : ∃ x, x = a4 kD := ⟨_, rfl⟩
  obtain ⟨Ta, hTa⟩ : ∃ x, x = a4 (dB q) := ⟨_, rfl⟩
  have zS : Sa.size = 17 := by rw [hSa]; rfl
  have zD : Da.size = 17 := by rw [hDa]; rfl
  have zT : Ta.size = 17 := by rw [hTa]; rfl
  obtain ⟨kc, hkc⟩ : ∃ kc, kc = kcells 17 Sa Da (1000 + u % 50000) 80 := ⟨_, rfl⟩
  obtain ⟨hc1, hhc⟩ : ∃ c, c = hcells 20 (20 + L) 6 Sa Ta := ⟨_, rfl⟩
  have CK := Lib.hid (show Calls Try.prog 16 #[.int .i64 n, .bool false, .bool true] w fun e w' => e = .returned (.agg kc) ∧ Below w.heap.size w w' from by rw [hkc, hSa, hDa]; exact key_udp n false u _ w hun hul rfl)
  have CM := Lib.hid (show ∀ W, Calls Try.prog 11 #[.agg Sa, .agg Da, .int .u8 6, .int .i64 (L : Int)] W fun e w' => ∃ x, e = .returned (.tuple #[x, .bool true]) ∧ w'.ownsRow W.heap.size 5 1 x 20 (nus .u8 (mk4 (kS u) kD 6 L)) ∧ Below W.heap.size W w' from fun W => by rw [hSa, hDa]; exact make_yes (kS u ++ List.replicate 12 0) (kD ++ List.replicate 12 0) 6 L W rfl rfl (by intro c hc; rcases List.mem_append.1 hc with h | h; exact bS c h; have := (List.mem_replicate.1 h).2; omega) (by decide) (by omega) (by omega))
  have CP := Lib.hid (fun W => dip_lit m q pt W hpm hqm (by omega) (by omega) hql)
  have CC := Lib.hid (show ∀ W z, Rd W z (nus .u8 B) → Calls Try.prog 14 #[z, .agg Ta] W fun e w' => ∃ x, e = .returned x ∧ w'.ownsRow W.heap.size 5 1 x (20 + L) (nus .u8 C) ∧ Below W.heap.size W w' from fun W z h => by rw [hTa, hC, ← f8]; exact dest_yes z B (dB q ++ List.replicate 12 0) W h bB' f1 (by omega) rfl (by intro c hc; rcases List.mem_append.1 hc with h | h; exact bT c h; have := (List.mem_replicate.1 h).2; omega))
  have CD := Lib.hid (show ∀ W z, Rd W z (nus .u8 C) → Calls Try.prog 14 #[z, .agg Da] W fun e w' => ∃ x, e = .returned x ∧ w'.ownsRow W.heap.size 5 1 x (20 + L) (nus .u8 D) ∧ Below W.heap.size W w' from fun W z h => by rw [hDa, hD, ← c3]; exact dest_yes z C (kD ++ List.replicate 12 0) W h bC c1 (by omega) rfl (by decide))
  have CR := Lib.hid (show ∀ W z, Rd W z (nus .u8 C) → Calls Try.prog 9 #[z] W fun e w' => e = .returned (.tuple #[.agg hc1, .int .i64 0]) ∧ Below W.heap.size W w' from fun W z h => by have := read_any z C W h bC; rw [c2, c1] at this; rw [hhc, hSa, hTa]; exact this)
  have HL : Hid ((.agg #[.bool false, .int .u8 172, .int .u8 16, .int .u8 0, .int .u8 ((1 + q : Nat) : Int), .int .u8 0, .int .u8 0, .int .u8 0, .int .u8 0, .int .u8 0, .int .u8 0, .int .u8 0, .int .u8 0, .int .u8 0, .int .u8 0, .int .u8 0, .int .u8 0] : Value) = .agg Ta) := by
    show _ = _
    rw [hTa]; rfl
  have QS := Lib.hid (a4_equal _ Sa hSa (by simp [hkS]) bS)
  have QT := Lib.hid (a4_equal _ Ta hTa (by simp [hdB]) bT)
  have kp1 := Lib.hid (show (kc.toList.drop 1).take Sa.toList.length = Sa.toList by rw [hkc]; exact kcells_src _ _ _ _ _)
  have kp2 := Lib.hid (show (kc.toList.drop 18).take Da.toList.length = Da.toList by rw [hkc]; exact kcells_dst _ _ _ _ _ zS)
  have hp1 := Lib.hid (show (hc1.toList.drop 3).take Sa.toList.length = Sa.toList by rw [hhc]; exact hcells_src _ _ _ _ _)
  have hp2 := Lib.hid (show (hc1.toList.drop 20).take Ta.toList.length = Ta.toList by rw [hhc]; exact hcells_dst _ _ _ _ _ zS)
  have IS := Lib.hid (i24.trans (congrArg some (show (17 : Nat) = Sa.toList.length by simp [zS])))
  have ID := Lib.hid (i24.trans (congrArg some (show (17 : Nat) = Da.toList.length by simp [zD])))
  have IT := Lib.hid (i24.trans (congrArg some (show (17 : Nat) = Ta.toList.length by simp [zT])))
  have zk : kc.size = 37 := by rw [hkc]; exact kcells_size _ _ _ _ _ zS zD
  have zc : hc1.size = 37 := by rw [hhc]; exact hcells_size _ _ _ _ _ zS zT
  have AS : Sa.all (·.oneCell') = true := by rw [hSa]; exact a4_all _
  have AD : Da.all (·.oneCell') = true := by rw [hDa]; exact a4_all _
  have AT := Lib.hid (show Ta.all (·.oneCell') = true by rw [hTa]; exact a4_all _)
  have Ak := Lib.hid (show kc.all (·.oneCell') = true by rw [hkc]; exact kcells_all _ _ _ _ _ AS AD)
  have Ac := Lib.hid (show hc1.all (·.oneCell') = true by rw [hhc]; exact hcells_all _ _ _ _ _ AS AT.out)
  have Zk := Lib.hid (i42.trans (congrArg some zk.symm))
  have Yk : Hid (kc.size = Array.size (#[Value.int .u8 0, .bool false, .int .u8 0, .int .u8 0, .int .u8 0, .int .u8 0, .int .u8 0, .int .u8 0, .int .u8 0, .int .u8 0, .int .u8 0, .int .u8 0, .int .u8 0, .int .u8 0, .int .u8 0, .int .u8 0, .int .u8 0, .int .u8 0, .bool false, .int .u8 0, .int .u8 0, .int .u8 0, .int .u8 0, .int .u8 0, .int .u8 0, .int .u8 0, .int .u8 0, .int .u8 0, .int .u8 0, .int .u8 0, .int .u8 0, .int .u8 0, .int .u8 0, .int .u8 0, .int .u8 0, .int .u16 0, .int .u16 0] : Array Value)) := zk
  have Zc := Lib.hid (i29.trans (congrArg some zc.symm))
  have Yc : Hid (hc1.size = Array.size (#[Value.int .i64 0, .int .i64 0, .int .u8 0, .bool false, .int .u8 0, .int .u8 0, .int .u8 0, .int .u8 0, .int .u8 0, .int .u8 0, .int .u8 0, .int .u8 0, .int .u8 0, .int .u8 0, .int .u8 0, .int .u8 0, .int .u8 0, .int .u8 0, .int .u8 0, .int .u8 0, .bool false, .int .u8 0, .int .u8 0, .int .u8 0, .int .u8 0, .int .u8 0, .int .u8 0, .int .u8 0, .int .u8 0, .int .u8 0, .int .u8 0, .int .u8 0, .int .u8 0, .int .u8 0, .int .u8 0, .int .u8 0, .int .u8 0] : Array Value)) := zc
  have ZT := Lib.hid (i24.trans (congrArg some zT.symm))
  have YT : Hid (Ta.size = Array.size (#[Value.bool false, .int .u8 0, .int .u8 0, .int .u8 0, .int .u8 0, .int .u8 0, .int .u8 0, .int .u8 0, .int .u8 0, .int .u8 0, .int .u8 0, .int .u8 0, .int .u8 0, .int .u8 0, .int .u8 0, .int .u8 0, .int .u8 0] : Array Value)) := zT
  have HB := Lib.hid hB
  have E4 := Lib.hid c4
  have E5 := Lib.hid c5
  have E6 := Lib.hid c6
  have F4 := Lib.hid d4
  have F6 := Lib.hid d6
  have LC := Lib.hid c3
  have LD := Lib.hid d3
  have LB := Lib.hid f8
  clear hr hb hu hun hul hq hqm hql hpt hpm hkS hkD hdB bS bD bT f1 f2 f3 f4 f5 f6 f7 f8 bM hB bB' hC c1 c2 c3 bC c4 c5 c6 hD d3 d4 d6 hSa hDa hTa zS zD zT hkc hhc zk zc AS AD
  have hdl : decide ((500 : Int) < (L : Int)) = false := decide_eq_false (by omega)
  unfold maxLen at hLm
  go_enter Try.func4, Try.ntmps4
  go_wp2_with fail
  refine CK.out.mono ?_; rintro e W1 ⟨rfl, hy⟩
  have K1 := Lib.hid hy
  clear hy CK
  go_wp2_with (((with_reducible refine wpList_blk_store (op := ⟨none, .store 42 (.tmp 7) (.tmp 21), _, _, _, _⟩) ?sg1 42 (.tmp 7) (.tmp 21) ?so1 (W1.heap.size) kc ?sx1 ?sy1 (Blk.new W1 42 #[Value.int .u8 0, .bool false, .int .u8 0, .int .u8 0, .int .u8 0, .int .u8 0, .int .u8 0, .int .u8 0, .int .u8 0, .int .u8 0, .int .u8 0, .int .u8 0, .int .u8 0, .int .u8 0, .int .u8 0, .int .u8 0, .int .u8 0, .int .u8 0, .bool false, .int .u8 0, .int .u8 0, .int .u8 0, .int .u8 0, .int .u8 0, .int .u8 0, .int .u8 0, .int .u8 0, .int .u8 0, .int .u8 0, .int .u8 0, .int .u8 0, .int .u8 0, .int .u8 0, .int .u8 0, .int .u8 0, .int .u16 0, .int .u16 0]) Yk.out Zk.out Ak.out ?_); (case sg1 => rfl); (case so1 => rfl); (case sx1 => rfl); (case sy1 => rfl)))
  intro W2 hA hF hB
  have K2 := Lib.hid ((K1.out.alloc K1.out.size (.cells #[Value.int .u8 0, .bool false, .int .u8 0, .int .u8 0, .int .u8 0, .int .u8 0, .int .u8 0, .int .u8 0, .int .u8 0, .int .u8 0, .int .u8 0, .int .u8 0, .int .u8 0, .int .u8 0, .int .u8 0, .int .u8 0, .int .u8 0, .int .u8 0, .bool false, .int .u8 0, .int .u8 0, .int .u8 0, .int .u8 0, .int .u8 0, .int .u8 0, .int .u8 0, .int .u8 0, .int .u8 0, .int .u8 0, .int .u8 0, .int .u8 0, .int .u8 0, .int .u8 0, .int .u8 0, .int .u8 0, .int .u16 0, .int .u16 0] 42)).trans (hB _ K1.out.size))
  have A2 := Lib.hid hA
  have l1 := Lib.hid (run_part_load (P := Try.prog) 25 1 Sa.toList _ hA kp1.out Try.underlying25 rfl IS.out)
  have l2 := Lib.hid (run_part_load (P := Try.prog) 25 18 Da.toList _ hA kp2.out Try.underlying25 rfl ID.out)
  rw [Array.toArray_toList] at l1 l2
  clear hA hF hB K1
  go_wp2_with (first | ((with_reducible refine wpList_load_want (op := ⟨some 24, .load 25 (.tmp 23), _, _, _, _⟩) ?wg2 25 (.tmp 23) ?wo2 ⟨W1.heap.size, 1, none⟩ ?wx2 (.agg Sa) l1.out ?_); (case wg2 => rfl); (case wo2 => rfl); (case wx2 => rfl)) | ((with_reducible refine wpList_load_want (op := ⟨some 26, .load 25 (.tmp 25), _, _, _, _⟩) ?wg3 25 (.tmp 25) ?wo3 ⟨W1.heap.size, 18, none⟩ ?wx3 (.agg Da) l2.out ?_); (case wg3 => rfl); (case wo3 => rfl); (case wx3 => rfl)))
  refine (CM.out W2).mono ?_
  rintro e W3 ⟨x, rfl, ox, hy⟩
  obtain ⟨gx, cx, rfl, hcx, hcxm, -, -⟩ := own_at ox (by omega)
  have K3 := Lib.hid (K2.out.trans (hy.mono K2.out.size))
  have A3 := Lib.hid (A2.out.below hy A2.out.lt)
  have X3 := Lib.hid (Rd.own ox)
  clear ox hy K2 A2 l1 l2 CM
  go_wp2_with fail
  refine (CP.out W3).mono ?_; rintro e W4 ⟨rfl, hy⟩
  have K4 := Lib.hid (K3.out.trans (hy.mono K3.out.size))
  have A4 := Lib.hid (A3.out.below hy A3.out.lt)
  have X4 := Lib.hid (X3.out.below hy)
  clear hy K3 A3 X3 CP
  go_wp2_with (first | ((with_reducible refine wpList_field_want (op := ⟨some 34, .field 45 (.tmp 33) 0, _, _, _, _⟩) ?wg4 45 (.tmp 33) 0 ?wo4 (.agg #[.bool false, .int .u8 172, .int .u8 16, .int .u8 0, .int .u8 ((1 + q : Nat) : Int), .int .u8 0, .int .u8 0, .int .u8 0, .int .u8 0, .int .u8 0, .int .u8 0, .int .u8 0, .int .u8 0, .int .u8 0, .int .u8 0, .int .u8 0, .int .u8 0, .int .u16 (pt : Int)]) (.agg #[.bool false, .int .u8 172, .int .u8 16, .int .u8 0, .int .u8 ((1 + q : Nat) : Int), .int .u8 0, .int .u8 0, .int .u8 0, .int .u8 0, .int .u8 0, .int .u8 0, .int .u8 0, .int .u8 0, .int .u8 0, .int .u8 0, .int .u8 0, .int .u8 0]) ?wx4 (dip_field _ _ _) ?_); (case wg4 => rfl); (case wo4 => rfl); (case wx4 => rfl)) | ((with_reducible refine wpList_blk_store (op := ⟨none, .store 25 (.tmp 10) (.tmp 34), _, _, _, _⟩) ?sg5 25 (.tmp 10) (.tmp 34) ?so5 (W4.heap.size) Ta ?sx5 ?sy5 (Blk.new W4 25 #[Value.bool false, .int .u8 0, .int .u8 0, .int .u8 0, .int .u8 0, .int .u8 0, .int .u8 0, .int .u8 0, .int .u8 0, .int .u8 0, .int .u8 0, .int .u8 0, .int .u8 0, .int .u8 0, .int .u8 0, .int .u8 0, .int .u8 0]) YT.out ZT.out AT.out ?_); (case sg5 => rfl); (case so5 => rfl); (case sx5 => rfl); (case sy5 => exact HL.out)))
  intro W5 hA hF hB
  have b7 := ((Below.refl W4.heap.size W4).alloc (Nat.le_refl _) (.cells #[Value.bool false, .int .u8 0, .int .u8 0, .int .u8 0, .int .u8 0, .int .u8 0, .int .u8 0, .int .u8 0, .int .u8 0, .int .u8 0, .int .u8 0, .int .u8 0, .int .u8 0, .int .u8 0, .int .u8 0, .int .u8 0, .int .u8 0] 25)).trans (hB _ (Nat.le_refl _))
  have K5 := Lib.hid (K4.out.trans (b7.mono K4.out.size))
  have A5 := Lib.hid (A4.out.below b7 A4.out.lt)
  have X5 := Lib.hid (X4.out.below b7)
  have T5 := Lib.hid hA
  clear hA hF hB b7 K4 A4 X4
  have b6 := (Below.refl W5.heap.size W5).alloc (Nat.le_refl _) (.cells #[] 5)
  have O6 := Lib.hid (own_none W5 5)
  have L6 := Lib.hid b6
  have R6 := Lib.hid (X5.out.below b6)
  clear b6
  go_wp2_with (at_builtin; refine wpList_app rfl (.tmp 35) (.tmp 36) rfl W5.heap.size _ 0 [] rfl O6.out (some _) 20 cx _ rfl R6.out ?c1 ?c2 ?c3 ?c4)
  case c1 => intro e; cases e
  case c2 => omega
  case c3 => exact L6.out.size
  intro v7 W7 o7 g7
  have L7 := Lib.hid (L6.out.grown g7 L6.out.size (fun k e => (O6.out.lt k e).1))
  have O7 := Lib.hid (show W7.ownsRow W5.heap.size 5 1 v7 20 (nus .u8 (mk4 (kS u) kD 6 L)) from by simpa using o7)
  have R7 := Lib.hid ((HR.out.below K5.out).below L7.out)
  clear o7 g7 O6 L6 R6
  go_wp2_with (at_builtin; refine wpList_app rfl (.tmp 37) (.tmp 38) rfl W5.heap.size _ 20 (mk4 (kS u) kD 6 L) rfl O7.out a L cap zs rfl R7.out hna ?e2 ?e3 ?e4)
  case e2 => omega
  case e3 => exact L7.out.size
  intro v8 W8 o8 g8
  have L8 := Lib.hid (L7.out.grown g8 L7.out.size (fun k e => (O7.out.lt k e).1))
  rw [← HB.out] at o8
  obtain ⟨gb, cb, rfl, hcb, hcbm, -, -⟩ := own_at o8 (by omega)
  have B8 := Lib.hid (Rd.own o8)
  have K8 := Lib.hid (K5.out.trans (L8.out.mono K5.out.size))
  have A8 := Lib.hid (A5.out.below L8.out A5.out.lt)
  have T8 := Lib.hid (T5.out.below L8.out T5.out.lt)
  clear o8 g8 O7 R7 L7 L8 K5 A5 T5 X5
  go_wp2_with (((with_reducible refine wpList_blk_load (op := ⟨some 41, .load 25 (.tmp 10), _, _, _, _⟩) ?lg6 25 (.tmp 10) ?lo6 (W4.heap.size) ?lx6 _ T8.out Try.underlying25 ?ld6 ZT.out ?_); (case lg6 => rfl); (case lo6 => rfl); (case lx6 => rfl); (case ld6 => rfl)))
  refine (CC.out W8 _ B8.out).mono ?_
  rintro e W9 ⟨y, rfl, oy, hy⟩
  obtain ⟨gc, cc, rfl, hcc, hccm, -, -⟩ := own_at oy (by omega)
  have K9 := Lib.hid (K8.out.trans (hy.mono K8.out.size))
  have A9 := Lib.hid (A8.out.below hy A8.out.lt)
  have T9 := Lib.hid (T8.out.below hy T8.out.lt)
  have B9 := Lib.hid (B8.out.below hy)
  have C9 := Lib.hid (Rd.own oy)
  clear oy hy K8 A8 T8 B8 CC
  go_wp2_with fail
  refine (CR.out W9 _ C9.out).mono ?_; rintro e W10 ⟨rfl, hy⟩
  have K10 := Lib.hid (K9.out.trans (hy.mono K9.out.size))
  have A10 := Lib.hid (A9.out.below hy A9.out.lt)
  have T10 := Lib.hid (T9.out.below hy T9.out.lt)
  have B10 := Lib.hid (B9.out.below hy)
  have C10 := Lib.hid (C9.out.below hy)
  clear hy K9 A9 T9 B9 C9 CR
  go_wp2_with (((with_reducible refine wpList_blk_store (op := ⟨none, .store 29 (.tmp 13) (.tmp 46), _, _, _, _⟩) ?sg8 29 (.tmp 13) (.tmp 46) ?so8 (W10.heap.size) hc1 ?sx8 ?sy8 (Blk.new W10 29 #[Value.int .i64 0, .int .i64 0, .int .u8 0, .bool false, .int .u8 0, .int .u8 0, .int .u8 0, .int .u8 0, .int .u8 0, .int .u8 0, .int .u8 0, .int .u8 0, .int .u8 0, .int .u8 0, .int .u8 0, .int .u8 0, .int .u8 0, .int .u8 0, .int .u8 0, .int .u8 0, .bool false, .int .u8 0, .int .u8 0, .int .u8 0, .int .u8 0, .int .u8 0, .int .u8 0, .int .u8 0, .int .u8 0, .int .u8 0, .int .u8 0, .int .u8 0, .int .u8 0, .int .u8 0, .int .u8 0, .int .u8 0, .int .u8 0]) Yc.out Zc.out Ac.out ?_); (case sg8 => rfl); (case so8 => rfl); (case sx8 => rfl); (case sy8 => rfl)))
  intro W11 hA hF hB
  have b7 := ((Below.refl W10.heap.size W10).alloc (Nat.le_refl _) (.cells #[Value.int .i64 0, .int .i64 0, .int .u8 0, .bool false, .int .u8 0, .int .u8 0, .int .u8 0, .int .u8 0, .int .u8 0, .int .u8 0, .int .u8 0, .int .u8 0, .int .u8 0, .int .u8 0, .int .u8 0, .int .u8 0, .int .u8 0, .int .u8 0, .int .u8 0, .int .u8 0, .bool false, .int .u8 0, .int .u8 0, .int .u8 0, .int .u8 0, .int .u8 0, .int .u8 0, .int .u8 0, .int .u8 0, .int .u8 0, .int .u8 0, .int .u8 0, .int .u8 0, .int .u8 0, .int .u8 0, .int .u8 0, .int .u8 0] 29)).trans (hB _ (Nat.le_refl _))
  have K11 := Lib.hid (K10.out.trans (b7.mono K10.out.size))
  have A11 := Lib.hid (A10.out.below b7 A10.out.lt)
  have T11 := Lib.hid (T10.out.below b7 T10.out.lt)
  have B11 := Lib.hid (B10.out.below b7)
  have C11 := Lib.hid (C10.out.below b7)
  have H11 := Lib.hid hA
  have l3 := Lib.hid (run_part_load (P := Try.prog) 25 18 Da.toList _ A11.out kp2.out Try.underlying25 rfl ID.out)
  rw [Array.toArray_toList] at l3
  clear hA hF hB b7 K10 A10 T10 B10 C10
  go_wp2_with (((with_reducible refine wpList_load_want (op := ⟨some 50, .load 25 (.tmp 49), _, _, _, _⟩) ?wg7 25 (.tmp 49) ?wo7 ⟨W1.heap.size, 18, none⟩ ?wx7 (.agg Da) l3.out ?_); (case wg7 => rfl); (case wo7 => rfl); (case wx7 => rfl)))
  refine (CD.out W11 _ C11.out).mono ?_
  rintro e W12 ⟨y, rfl, oy, hy⟩
  obtain ⟨gd, cd, rfl, hcd, hcdm, -, -⟩ := own_at oy (by omega)
  have K12 := Lib.hid (K11.out.trans (hy.mono K11.out.size))
  have A12 := Lib.hid (A11.out.below hy A11.out.lt)
  have T12 := Lib.hid (T11.out.below hy T11.out.lt)
  have B12 := Lib.hid (B11.out.below hy)
  have C12 := Lib.hid (C11.out.below hy)
  have H12 := Lib.hid (H11.out.below hy H11.out.lt)
  have D12 := Lib.hid (Rd.own oy)
  clear oy hy K11 A11 T11 B11 C11 H11 CD l3
  have cv : ∀ (W : World) (v : Value) (l : List Nat), Rd W12 v (nus .u8 l) → Below W12.heap.size W12 W → (convert 22 9 v).run Try.prog W = .ok (.string (str l)) W := fun W v l h hW => conv_rd W 22 9 5 Try.underlying22 Try.underlying5 Try.underlying9 _ _ (h.below hW)
  have b1 := Lib.hid (B12.out.front 10 (by rw [LB.out]; omega))
  have b2 := Lib.hid (B12.out.sub 12 4 (by omega))
  have b3 := Lib.hid (subP B12.out 20 L (by omega))
  have b4 := Lib.hid (B12.out.sub 12 (20 + L - 12) (by omega))
  have y1 := Lib.hid (C12.out.front 10 (by rw [LC.out]; omega))
  have y2 := Lib.hid (C12.out.sub 12 4 (by omega))
  have y3 := Lib.hid (subP C12.out 20 L (by omega))
  have x1 := Lib.hid (D12.out.front 10 (by rw [LD.out]; omega))
  have x4 := Lib.hid (D12.out.sub 12 (20 + L - 12) (by omega))
  rw [E4.out] at y1
  rw [E5.out] at y2
  rw [E6.out] at y3
  rw [F4.out] at x1
  rw [F6.out] at x4
  have V1 := Lib.hid (fun W => cv W _ _ b1.out)
  have V2 := Lib.hid (fun W => cv W _ _ b2.out)
  have V3 := Lib.hid (fun W => cv W _ _ b3.out)
  have V4 := Lib.hid (fun W => cv W _ _ b4.out)
  have U1 := Lib.hid (fun W => cv W _ _ y1.out)
  have U2 := Lib.hid (fun W => cv W _ _ y2.out)
  have U3 := Lib.hid (fun W => cv W _ _ y3.out)
  have Q1 := Lib.hid (fun W => cv W _ _ x1.out)
  have Q4 := Lib.hid (fun W => cv W _ _ x4.out)
  clear cv b1 b2 b3 b4 y1 y2 y3 x1 x4
  generalize str (B.take 10) = s1 at V1 U1 Q1
  generalize str ((B.drop 12).take 4) = s2 at V2 U2
  generalize str ((B.drop 20).take L) = s3 at V3 U3
  generalize str ((B.drop 12).take (20 + L - 12)) = s4 at V4 Q4
  go_wp2_with fail
  refine wp_region_held (S := (fun w' : World => Below W12.heap.size W12 w')) (by kernel_rfl) ?_
  change wpAnyH _ _ _ _ _ _ _ _ W12.drew
  have hE0 : Below W12.heap.size W12 W12.drew := (Below.refl _ _).drew
  generalize W12.drew = Y0 at hE0  ⊢
  have E0 := Lib.hid hE0
  clear hE0 
  refine wpAnyH_take (i := 0) (oi := { dst := some 52, op := Op.move (Operand.tmp 9), type := 4, pos := "law.go:78", after := #[], guard := none }) (v := ?_) rfl (by kernel_rfl) (by kernel_rfl) (by kernel_rfl) (fun _ _ _ h => h) (Or.inl ⟨by rfl, ?_⟩) E0.out ?_
  rotate_left
  · (intro w1 hS; go_simp; try with_reducible rfl)
  simp only [Act.put, List.setIfInBounds_toArray, List.set_cons_zero, List.set_cons_succ]
  refine wpAnyH_take (i := 1) (oi := { dst := some 53, op := Op.unOp UnOp.not 4 (Operand.tmp 52), type := 4, pos := "law.go:78", after := #[{ on := 0, ground := Ground.data }], guard := none }) (v := ?_) rfl (by kernel_rfl) (by kernel_rfl) (by kernel_rfl) (fun _ _ _ h => h) (Or.inl ⟨by rfl, ?_⟩) E0.out ?_
  rotate_left
  · (intro w1 hS; go_simp; try with_reducible rfl)
  simp only [Act.put, List.setIfInBounds_toArray, List.set_cons_zero, List.set_cons_succ]
  refine wpAnyH_take (i := 2) (oi := { dst := some 54, op := Op.move (Operand.tmp 53), type := 4, pos := "law.go:78", after := #[{ on := 1, ground := Ground.data }], guard := none }) (v := ?_) rfl (by kernel_rfl) (by kernel_rfl) (by kernel_rfl) (fun _ _ _ h => h) (Or.inl ⟨by rfl, ?_⟩) E0.out ?_
  rotate_left
  · (intro w1 hS; go_simp; try with_reducible rfl)
  simp only [Act.put, List.setIfInBounds_toArray, List.set_cons_zero, List.set_cons_succ]
  refine wpAnyH_take (i := 3) (oi := { dst := some 55, op := Op.move (Operand.tmp 14), type := 3, pos := "law.go:78", after := #[{ on := 2, ground := Ground.guard }], guard := some (2, false) }) (v := ?_) rfl (by kernel_rfl) (by kernel_rfl) (by kernel_rfl) (fun _ _ _ h => h) (Or.inl ⟨by rfl, ?_⟩) E0.out ?_
  rotate_left
  · (intro w1 hS; go_simp; try with_reducible rfl)
  simp only [Act.put, List.setIfInBounds_toArray, List.set_cons_zero, List.set_cons_succ]
  refine wpAnyH_take (i := 4) (oi := { dst := some 56, op := Op.binOp BinOp.neq 3 (Operand.tmp 55) (Operand.const (Value.int IntKind.i64 0)) 3, type := 4, pos := "law.go:78", after := #[{ on := 3, ground := Ground.data }, { on := 2, ground := Ground.guard }], guard := some (2, false) }) (v := ?_) rfl (by kernel_rfl) (by kernel_rfl) (by kernel_rfl) (fun _ _ _ h => h) (Or.inl ⟨by rfl, ?_⟩) E0.out ?_
  rotate_left
  · (intro w1 hS; go_simp; try with_reducible rfl)
  simp only [Act.put, List.setIfInBounds_toArray, List.set_cons_zero, List.set_cons_succ]
  refine wpAnyH_take (i := 5) (oi := { dst := some 57, op := Op.pick (Operand.tmp 54) (Operand.const (Value.bool true)) (Operand.tmp 56), type := 4, pos := "law.go:78", after := #[{ on := 2, ground := Ground.data }, { on := 4, ground := Ground.data }], guard := none }) (v := ?_) rfl (by kernel_rfl) (by kernel_rfl) (by kernel_rfl) (fun _ _ _ h => h) (Or.inl ⟨by rfl, ?_⟩) E0.out ?_
  rotate_left
  · (intro w1 hS; go_simp; try with_reducible rfl)
  simp only [Act.put, List.setIfInBounds_toArray, List.set_cons_zero, List.set_cons_succ]
  refine wpAnyH_take (i := 6) (oi := { dst := some 58, op := Op.move (Operand.tmp 57), type := 4, pos := "law.go:78", after := #[{ on := 5, ground := Ground.data }, { on := 2, ground := Ground.chain }], guard := none }) (v := ?_) rfl (by kernel_rfl) (by kernel_rfl) (by kernel_rfl) (fun _ _ _ h => h) (Or.inl ⟨by rfl, ?_⟩) E0.out ?_
  rotate_left
  · (intro w1 hS; go_simp; try with_reducible rfl)
  simp only [Act.put, List.setIfInBounds_toArray, List.set_cons_zero, List.set_cons_succ]
  refine wpAnyH_take (i := 7) (oi := { dst := some 59, op := Op.fieldAddr 29 (Operand.tmp 13) 4, type := 0, pos := "law.go:78", after := #[{ on := 6, ground := Ground.guard }], guard := some (6, false) }) (v := ?_) rfl (by kernel_rfl) (by kernel_rfl) (by kernel_rfl) (fun _ _ _ h => h) (Or.inl ⟨by rfl, ?_⟩) E0.out ?_
  rotate_left
  · (intro w1 hS; go_simp; try with_reducible rfl)
  simp only [Act.put, List.setIfInBounds_toArray, List.set_cons_zero, List.set_cons_succ]
  refine wpAnyH_take (i := 8) (oi := { dst := some 60, op := Op.load 25 (Operand.tmp 59), type := 25, pos := "law.go:78", after := #[{ on := 7, ground := Ground.data }, { on := 6, ground := Ground.guard }], guard := some (6, false) }) (v := .agg Ta) rfl (by kernel_rfl) (by kernel_rfl) (by kernel_rfl) (fun _ _ _ h => h) (Or.inl ⟨by rfl, ?_⟩) E0.out ?_
  · (intro w1 hS; have hW := hS; exact exec_load 25 (.tmp 59) rfl _ rfl _ (by have h := run_part_load (P := Try.prog) 25 20 Ta.toList _ (H12.out.below hW H12.out.lt) hp2.out Try.underlying25 rfl IT.out; rwa [Array.toArray_toList] at h))
  simp only [Act.put, List.setIfInBounds_toArray, List.set_cons_zero, List.set_cons_succ]
  refine wpAnyH_take (i := 9) (oi := { dst := some 61, op := Op.load 25 (Operand.tmp 10), type := 25, pos := "law.go:78", after := #[{ on := 6, ground := Ground.guard }], guard := some (6, false) }) (v := .agg Ta) rfl (by kernel_rfl) (by kernel_rfl) (by kernel_rfl) (fun _ _ _ h => h) (Or.inl ⟨by rfl, ?_⟩) E0.out ?_
  · (intro w1 hS; have hW := hS; exact exec_load 25 (.tmp 10) rfl _ rfl _ (run_blk_load (P := Try.prog) 25 W4.heap.size _ (T12.out.below hW T12.out.lt) Try.underlying25 rfl ZT.out))
  simp only [Act.put, List.setIfInBounds_toArray, List.set_cons_zero, List.set_cons_succ]
  refine wpAnyH_take (i := 10) (oi := { dst := some 62, op := Op.binOp BinOp.neq 25 (Operand.tmp 60) (Operand.tmp 61) 25, type := 4, pos := "law.go:78", after := #[{ on := 8, ground := Ground.data }, { on := 9, ground := Ground.data }, { on := 6, ground := Ground.guard }], guard := some (6, false) }) (v := ?_) rfl (by kernel_rfl) (by kernel_rfl) (by kernel_rfl) (fun _ _ _ h => h) (Or.inl ⟨by rfl, ?_⟩) E0.out ?_
  rotate_left
  · (intro w1 hS; have hW := hS; have q := QT.out; clear hW hS; go_simp; try with_reducible rfl)
  simp only [Act.put, List.setIfInBounds_toArray, List.set_cons_zero, List.set_cons_succ]
  refine wpAnyH_take (i := 11) (oi := { dst := some 63, op := Op.pick (Operand.tmp 58) (Operand.const (Value.bool true)) (Operand.tmp 62), type := 4, pos := "law.go:78", after := #[{ on := 6, ground := Ground.data }, { on := 10, ground := Ground.data }], guard := none }) (v := ?_) rfl (by kernel_rfl) (by kernel_rfl) (by kernel_rfl) (fun _ _ _ h => h) (Or.inl ⟨by rfl, ?_⟩) E0.out ?_
  rotate_left
  · (intro w1 hS; go_simp; try with_reducible rfl)
  simp only [Act.put, List.setIfInBounds_toArray, List.set_cons_zero, List.set_cons_succ]
  refine wpAnyH_take (i := 12) (oi := { dst := some 64, op := Op.move (Operand.tmp 63), type := 4, pos := "law.go:78", after := #[{ on := 11, ground := Ground.data }, { on := 6, ground := Ground.chain }], guard := none }) (v := ?_) rfl (by kernel_rfl) (by kernel_rfl) (by kernel_rfl) (fun _ _ _ h => h) (Or.inl ⟨by rfl, ?_⟩) E0.out ?_
  rotate_left
  · (intro w1 hS; go_simp; try with_reducible rfl)
  simp only [Act.put, List.setIfInBounds_toArray, List.set_cons_zero, List.set_cons_succ]
  refine wpAnyH_take (i := 13) (oi := { dst := some 65, op := Op.fieldAddr 29 (Operand.tmp 13) 3, type := 0, pos := "law.go:78", after := #[{ on := 12, ground := Ground.guard }], guard := some (12, false) }) (v := ?_) rfl (by kernel_rfl) (by kernel_rfl) (by kernel_rfl) (fun _ _ _ h => h) (Or.inl ⟨by rfl, ?_⟩) E0.out ?_
  rotate_left
  · (intro w1 hS; go_simp; try with_reducible rfl)
  simp only [Act.put, List.setIfInBounds_toArray, List.set_cons_zero, List.set_cons_succ]
  refine wpAnyH_take (i := 14) (oi := { dst := some 66, op := Op.load 25 (Operand.tmp 65), type := 25, pos := "law.go:78", after := #[{ on := 13, ground := Ground.data }, { on := 12, ground := Ground.guard }], guard := some (12, false) }) (v := .agg Sa) rfl (by kernel_rfl) (by kernel_rfl) (by kernel_rfl) (fun _ _ _ h => h) (Or.inl ⟨by rfl, ?_⟩) E0.out ?_
  · (intro w1 hS; have hW := hS; exact exec_load 25 (.tmp 65) rfl _ rfl _ (by have h := run_part_load (P := Try.prog) 25 3 Sa.toList _ (H12.out.below hW H12.out.lt) hp1.out Try.underlying25 rfl IS.out; rwa [Array.toArray_toList] at h))
  simp only [Act.put, List.setIfInBounds_toArray, List.set_cons_zero, List.set_cons_succ]
  refine wpAnyH_take (i := 15) (oi := { dst := some 67, op := Op.fieldAddr 42 (Operand.tmp 7) 1, type := 0, pos := "law.go:78", after := #[{ on := 12, ground := Ground.guard }], guard := some (12, false) }) (v := ?_) rfl (by kernel_rfl) (by kernel_rfl) (by kernel_rfl) (fun _ _ _ h => h) (Or.inl ⟨by rfl, ?_⟩) E0.out ?_
  rotate_left
  · (intro w1 hS; go_simp; try with_reducible rfl)
  simp only [Act.put, List.setIfInBounds_toArray, List.set_cons_zero, List.set_cons_succ]
  refine wpAnyH_take (i := 16) (oi := { dst := some 68, op := Op.load 25 (Operand.tmp 67), type := 25, pos := "law.go:78", after := #[{ on := 15, ground := Ground.data }, { on := 12, ground := Ground.guard }], guard := some (12, false) }) (v := .agg Sa) rfl (by kernel_rfl) (by kernel_rfl) (by kernel_rfl) (fun _ _ _ h => h) (Or.inl ⟨by rfl, ?_⟩) E0.out ?_
  · (intro w1 hS; have hW := hS; exact exec_load 25 (.tmp 67) rfl _ rfl _ (by have h := run_part_load (P := Try.prog) 25 1 Sa.toList _ (A12.out.below hW A12.out.lt) kp1.out Try.underlying25 rfl IS.out; rwa [Array.toArray_toList] at h))
  simp only [Act.put, List.setIfInBounds_toArray, List.set_cons_zero, List.set_cons_succ]
  refine wpAnyH_take (i := 17) (oi := { dst := some 69, op := Op.binOp BinOp.neq 25 (Operand.tmp 66) (Operand.tmp 68) 25, type := 4, pos := "law.go:78", after := #[{ on := 14, ground := Ground.data }, { on := 16, ground := Ground.data }, { on := 12, ground := Ground.guard }], guard := some (12, false) }) (v := ?_) rfl (by kernel_rfl) (by kernel_rfl) (by kernel_rfl) (fun _ _ _ h => h) (Or.inl ⟨by rfl, ?_⟩) E0.out ?_
  rotate_left
  · (intro w1 hS; have hW := hS; have q := QS.out; clear hW hS; go_simp; try with_reducible rfl)
  simp only [Act.put, List.setIfInBounds_toArray, List.set_cons_zero, List.set_cons_succ]
  refine wpAnyH_take (i := 18) (oi := { dst := some 70, op := Op.pick (Operand.tmp 64) (Operand.const (Value.bool true)) (Operand.tmp 69), type := 4, pos := "law.go:78", after := #[{ on := 12, ground := Ground.data }, { on := 17, ground := Ground.data }], guard := none }) (v := ?_) rfl (by kernel_rfl) (by kernel_rfl) (by kernel_rfl) (fun _ _ _ h => h) (Or.inl ⟨by rfl, ?_⟩) E0.out ?_
  rotate_left
  · (intro w1 hS; go_simp; try with_reducible rfl)
  simp only [Act.put, List.setIfInBounds_toArray, List.set_cons_zero, List.set_cons_succ]
  refine wpAnyH_take (i := 19) (oi := { dst := some 71, op := Op.move (Operand.tmp 70), type := 4, pos := "law.go:78", after := #[{ on := 18, ground := Ground.data }, { on := 12, ground := Ground.chain }], guard := none }) (v := ?_) rfl (by kernel_rfl) (by kernel_rfl) (by kernel_rfl) (fun _ _ _ h => h) (Or.inl ⟨by rfl, ?_⟩) E0.out ?_
  rotate_left
  · (intro w1 hS; go_simp; try with_reducible rfl)
  simp only [Act.put, List.setIfInBounds_toArray, List.set_cons_zero, List.set_cons_succ]
  refine wpAnyH_take (i := 20) (oi := { dst := some 72, op := Op.move (Operand.tmp 12), type := 22, pos := "law.go:78", after := #[{ on := 19, ground := Ground.guard }], guard := some (19, false) }) (v := ?_) rfl (by kernel_rfl) (by kernel_rfl) (by kernel_rfl) (fun _ _ _ h => h) (Or.inl ⟨by rfl, ?_⟩) E0.out ?_
  rotate_left
  · (intro w1 hS; go_simp; try with_reducible rfl)
  simp only [Act.put, List.setIfInBounds_toArray, List.set_cons_zero, List.set_cons_succ]
  refine wpAnyH_take (i := 21) (oi := { dst := some 73, op := Op.call { callee := Callee.builtin Builtin.len, args := #[Operand.tmp 72], argTypes := #[22] }, type := 3, pos := "law.go:78", after := #[{ on := 20, ground := Ground.data }, { on := 19, ground := Ground.guard }], guard := some (19, false) }) (v := ?_) rfl (by kernel_rfl) (by kernel_rfl) (by kernel_rfl) (fun _ _ _ h => h) (Or.inl ⟨by rfl, ?_⟩) E0.out ?_
  rotate_left
  · (intro w1 hS; go_simp; try with_reducible rfl)
  simp only [Act.put, List.setIfInBounds_toArray, List.set_cons_zero, List.set_cons_succ]
  refine wpAnyH_take (i := 22) (oi := { dst := some 74, op := Op.move (Operand.tmp 11), type := 22, pos := "law.go:78", after := #[{ on := 19, ground := Ground.guard }], guard := some (19, false) }) (v := ?_) rfl (by kernel_rfl) (by kernel_rfl) (by kernel_rfl) (fun _ _ _ h => h) (Or.inl ⟨by rfl, ?_⟩) E0.out ?_
  rotate_left
  · (intro w1 hS; go_simp; try with_reducible rfl)
  simp only [Act.put, List.setIfInBounds_toArray, List.set_cons_zero, List.set_cons_succ]
  refine wpAnyH_take (i := 23) (oi := { dst := some 75, op := Op.call { callee := Callee.builtin Builtin.len, args := #[Operand.tmp 74], argTypes := #[22] }, type := 3, pos := "law.go:78", after := #[{ on := 22, ground := Ground.data }, { on := 19, ground := Ground.guard }], guard := some (19, false) }) (v := ?_) rfl (by kernel_rfl) (by kernel_rfl) (by kernel_rfl) (fun _ _ _ h => h) (Or.inl ⟨by rfl, ?_⟩) E0.out ?_
  rotate_left
  · (intro w1 hS; go_simp; try with_reducible rfl)
  simp only [Act.put, List.setIfInBounds_toArray, List.set_cons_zero, List.set_cons_succ]
  refine wpAnyH_take (i := 24) (oi := { dst := some 76, op := Op.binOp BinOp.neq 3 (Operand.tmp 73) (Operand.tmp 75) 3, type := 4, pos := "law.go:78", after := #[{ on := 21, ground := Ground.data }, { on := 23, ground := Ground.data }, { on := 19, ground := Ground.guard }], guard := some (19, false) }) (v := ?_) rfl (by kernel_rfl) (by kernel_rfl) (by kernel_rfl) (fun _ _ _ h => h) (Or.inl ⟨by rfl, ?_⟩) E0.out ?_
  rotate_left
  · (intro w1 hS; go_simp; try with_reducible rfl)
  simp only [Act.put, List.setIfInBounds_toArray, List.set_cons_zero, List.set_cons_succ]
  refine wpAnyH_take (i := 25) (oi := { dst := some 77, op := Op.pick (Operand.tmp 71) (Operand.const (Value.bool true)) (Operand.tmp 76), type := 4, pos := "law.go:78", after := #[{ on := 19, ground := Ground.data }, { on := 24, ground := Ground.data }], guard := none }) (v := ?_) rfl (by kernel_rfl) (by kernel_rfl) (by kernel_rfl) (fun _ _ _ h => h) (Or.inl ⟨by rfl, ?_⟩) E0.out ?_
  rotate_left
  · (intro w1 hS; go_simp; try with_reducible rfl)
  simp only [Act.put, List.setIfInBounds_toArray, List.set_cons_zero, List.set_cons_succ]
  refine wpAnyH_take (i := 26) (oi := { dst := some 78, op := Op.move (Operand.tmp 77), type := 4, pos := "law.go:78", after := #[{ on := 25, ground := Ground.data }, { on := 19, ground := Ground.chain }], guard := none }) (v := ?_) rfl (by kernel_rfl) (by kernel_rfl) (by kernel_rfl) (fun _ _ _ h => h) (Or.inl ⟨by rfl, ?_⟩) E0.out ?_
  rotate_left
  · (intro w1 hS; go_simp; try with_reducible rfl)
  simp only [Act.put, List.setIfInBounds_toArray, List.set_cons_zero, List.set_cons_succ]
  refine wpAnyH_take (i := 27) (oi := { dst := some 79, op := Op.move (Operand.tmp 12), type := 22, pos := "law.go:78", after := #[{ on := 26, ground := Ground.guard }], guard := some (26, false) }) (v := ?_) rfl (by kernel_rfl) (by kernel_rfl) (by kernel_rfl) (fun _ _ _ h => h) (Or.inl ⟨by rfl, ?_⟩) E0.out ?_
  rotate_left
  · (intro w1 hS; go_simp; try with_reducible rfl)
  simp only [Act.put, List.setIfInBounds_toArray, List.set_cons_zero, List.set_cons_succ]
  refine wpAnyH_take (i := 28) (oi := { dst := some 80, op := Op.slice 22 (Operand.tmp 79) none (some (Operand.const (Value.int IntKind.i64 10))) none, type := 22, pos := "law.go:78", after := #[{ on := 27, ground := Ground.data }, { on := 26, ground := Ground.guard }], guard := some (26, false) }) (v := ?_) rfl (by kernel_rfl) (by kernel_rfl) (by kernel_rfl) (fun _ _ _ h => h) (Or.inl ⟨by rfl, ?_⟩) E0.out ?_
  rotate_left
  · (intro w1 hS; have hW := hS; have q : (10 : Int) ≤ (cc : Int) := (by omega); clear hW hS; go_simp; try with_reducible rfl)
  simp only [Act.put, List.setIfInBounds_toArray, List.set_cons_zero, List.set_cons_succ]
  refine wpAnyH_take (i := 29) (oi := { dst := some 81, op := Op.convert 22 9 (Operand.tmp 80), type := 9, pos := "law.go:78", after := #[{ on := 28, ground := Ground.data }, { on := 26, ground := Ground.guard }], guard := some (26, false) }) (v := ?_) rfl (by kernel_rfl) (by kernel_rfl) (by kernel_rfl) (fun _ _ _ h => h) (Or.inl ⟨by rfl, ?_⟩) E0.out ?_
  rotate_left
  · (intro w1 hS; have hW := hS; have q := U1.out w1 hW; clear hW hS; go_simp; try with_reducible rfl)
  simp only [Act.put, List.setIfInBounds_toArray, List.set_cons_zero, List.set_cons_succ]
  refine wpAnyH_take (i := 30) (oi := { dst := some 82, op := Op.move (Operand.tmp 11), type := 22, pos := "law.go:78", after := #[{ on := 26, ground := Ground.guard }], guard := some (26, false) }) (v := ?_) rfl (by kernel_rfl) (by kernel_rfl) (by kernel_rfl) (fun _ _ _ h => h) (Or.inl ⟨by rfl, ?_⟩) E0.out ?_
  rotate_left
  · (intro w1 hS; go_simp; try with_reducible rfl)
  simp only [Act.put, List.setIfInBounds_toArray, List.set_cons_zero, List.set_cons_succ]
  refine wpAnyH_take (i := 31) (oi := { dst := some 83, op := Op.slice 22 (Operand.tmp 82) none (some (Operand.const (Value.int IntKind.i64 10))) none, type := 22, pos := "law.go:78", after := #[{ on := 30, ground := Ground.data }, { on := 26, ground := Ground.guard }], guard := some (26, false) }) (v := ?_) rfl (by kernel_rfl) (by kernel_rfl) (by kernel_rfl) (fun _ _ _ h => h) (Or.inl ⟨by rfl, ?_⟩) E0.out ?_
  rotate_left
  · (intro w1 hS; have hW := hS; have q : (10 : Int) ≤ (cb : Int) := (by omega); clear hW hS; go_simp; try with_reducible rfl)
  simp only [Act.put, List.setIfInBounds_toArray, List.set_cons_zero, List.set_cons_succ]
  refine wpAnyH_take (i := 32) (oi := { dst := some 84, op := Op.convert 22 9 (Operand.tmp 83), type := 9, pos := "law.go:78", after := #[{ on := 31, ground := Ground.data }, { on := 26, ground := Ground.guard }], guard := some (26, false) }) (v := ?_) rfl (by kernel_rfl) (by kernel_rfl) (by kernel_rfl) (fun _ _ _ h => h) (Or.inl ⟨by rfl, ?_⟩) E0.out ?_
  rotate_left
  · (intro w1 hS; have hW := hS; have q := V1.out w1 hW; clear hW hS; go_simp; try with_reducible rfl)
  simp only [Act.put, List.setIfInBounds_toArray, List.set_cons_zero, List.set_cons_succ]
  refine wpAnyH_take (i := 33) (oi := { dst := some 85, op := Op.binOp BinOp.neq 9 (Operand.tmp 81) (Operand.tmp 84) 9, type := 4, pos := "law.go:78", after := #[{ on := 29, ground := Ground.data }, { on := 32, ground := Ground.data }, { on := 26, ground := Ground.guard }], guard := some (26, false) }) (v := ?_) rfl (by kernel_rfl) (by kernel_rfl) (by kernel_rfl) (fun _ _ _ h => h) (Or.inl ⟨by rfl, ?_⟩) E0.out ?_
  rotate_left
  · (intro w1 hS; go_simp; try with_reducible rfl)
  simp only [Act.put, List.setIfInBounds_toArray, List.set_cons_zero, List.set_cons_succ]
  refine wpAnyH_take (i := 34) (oi := { dst := some 86, op := Op.pick (Operand.tmp 78) (Operand.const (Value.bool true)) (Operand.tmp 85), type := 4, pos := "law.go:78", after := #[{ on := 26, ground := Ground.data }, { on := 33, ground := Ground.data }], guard := none }) (v := ?_) rfl (by kernel_rfl) (by kernel_rfl) (by kernel_rfl) (fun _ _ _ h => h) (Or.inl ⟨by rfl, ?_⟩) E0.out ?_
  rotate_left
  · (intro w1 hS; go_simp; try with_reducible rfl)
  simp only [Act.put, List.setIfInBounds_toArray, List.set_cons_zero, List.set_cons_succ]
  refine wpAnyH_take (i := 35) (oi := { dst := some 87, op := Op.move (Operand.tmp 86), type := 4, pos := "law.go:78", after := #[{ on := 34, ground := Ground.data }, { on := 26, ground := Ground.chain }], guard := none }) (v := ?_) rfl (by kernel_rfl) (by kernel_rfl) (by kernel_rfl) (fun _ _ _ h => h) (Or.inl ⟨by rfl, ?_⟩) E0.out ?_
  rotate_left
  · (intro w1 hS; go_simp; try with_reducible rfl)
  simp only [Act.put, List.setIfInBounds_toArray, List.set_cons_zero, List.set_cons_succ]
  refine wpAnyH_take (i := 36) (oi := { dst := some 88, op := Op.move (Operand.tmp 12), type := 22, pos := "law.go:78", after := #[{ on := 35, ground := Ground.guard }], guard := some (35, false) }) (v := ?_) rfl (by kernel_rfl) (by kernel_rfl) (by kernel_rfl) (fun _ _ _ h => h) (Or.inl ⟨by rfl, ?_⟩) E0.out ?_
  rotate_left
  · (intro w1 hS; go_simp; try with_reducible rfl)
  simp only [Act.put, List.setIfInBounds_toArray, List.set_cons_zero, List.set_cons_succ]
  refine wpAnyH_take (i := 37) (oi := { dst := some 89, op := Op.slice 22 (Operand.tmp 88) (some (Operand.const (Value.int IntKind.i64 12))) (some (Operand.const (Value.int IntKind.i64 16))) none, type := 22, pos := "law.go:78", after := #[{ on := 36, ground := Ground.data }, { on := 35, ground := Ground.guard }], guard := some (35, false) }) (v := ?_) rfl (by kernel_rfl) (by kernel_rfl) (by kernel_rfl) (fun _ _ _ h => h) (Or.inl ⟨by rfl, ?_⟩) E0.out ?_
  rotate_left
  · (intro w1 hS; have hW := hS; have q : (16 : Int) ≤ (cc : Int) := (by omega); have q2 : (cc = 12) = False := (eq_false (by omega)); clear hW hS; go_simp; try with_reducible rfl)
  simp only [Act.put, List.setIfInBounds_toArray, List.set_cons_zero, List.set_cons_succ]
  refine wpAnyH_take (i := 38) (oi := { dst := some 90, op := Op.convert 22 9 (Operand.tmp 89), type := 9, pos := "law.go:78", after := #[{ on := 37, ground := Ground.data }, { on := 35, ground := Ground.guard }], guard := some (35, false) }) (v := ?_) rfl (by kernel_rfl) (by kernel_rfl) (by kernel_rfl) (fun _ _ _ h => h) (Or.inl ⟨by rfl, ?_⟩) E0.out ?_
  rotate_left
  · (intro w1 hS; have hW := hS; have q := U2.out w1 hW; clear hW hS; go_simp; try with_reducible rfl)
  simp only [Act.put, List.setIfInBounds_toArray, List.set_cons_zero, List.set_cons_succ]
  refine wpAnyH_take (i := 39) (oi := { dst := some 91, op := Op.move (Operand.tmp 11), type := 22, pos := "law.go:78", after := #[{ on := 35, ground := Ground.guard }], guard := some (35, false) }) (v := ?_) rfl (by kernel_rfl) (by kernel_rfl) (by kernel_rfl) (fun _ _ _ h => h) (Or.inl ⟨by rfl, ?_⟩) E0.out ?_
  rotate_left
  · (intro w1 hS; go_simp; try with_reducible rfl)
  simp only [Act.put, List.setIfInBounds_toArray, List.set_cons_zero, List.set_cons_succ]
  refine wpAnyH_take (i := 40) (oi := { dst := some 92, op := Op.slice 22 (Operand.tmp 91) (some (Operand.const (Value.int IntKind.i64 12))) (some (Operand.const (Value.int IntKind.i64 16))) none, type := 22, pos := "law.go:78", after := #[{ on := 39, ground := Ground.data }, { on := 35, ground := Ground.guard }], guard := some (35, false) }) (v := ?_) rfl (by kernel_rfl) (by kernel_rfl) (by kernel_rfl) (fun _ _ _ h => h) (Or.inl ⟨by rfl, ?_⟩) E0.out ?_
  rotate_left
  · (intro w1 hS; have hW := hS; have q : (16 : Int) ≤ (cb : Int) := (by omega); have q2 : (cb = 12) = False := (eq_false (by omega)); clear hW hS; go_simp; try with_reducible rfl)
  simp only [Act.put, List.setIfInBounds_toArray, List.set_cons_zero, List.set_cons_succ]
  refine wpAnyH_take (i := 41) (oi := { dst := some 93, op := Op.convert 22 9 (Operand.tmp 92), type := 9, pos := "law.go:78", after := #[{ on := 40, ground := Ground.data }, { on := 35, ground := Ground.guard }], guard := some (35, false) }) (v := ?_) rfl (by kernel_rfl) (by kernel_rfl) (by kernel_rfl) (fun _ _ _ h => h) (Or.inl ⟨by rfl, ?_⟩) E0.out ?_
  rotate_left
  · (intro w1 hS; have hW := hS; have q := V2.out w1 hW; clear hW hS; go_simp; try with_reducible rfl)
  simp only [Act.put, List.setIfInBounds_toArray, List.set_cons_zero, List.set_cons_succ]
  refine wpAnyH_take (i := 42) (oi := { dst := some 94, op := Op.binOp BinOp.neq 9 (Operand.tmp 90) (Operand.tmp 93) 9, type := 4, pos := "law.go:78", after := #[{ on := 38, ground := Ground.data }, { on := 41, ground := Ground.data }, { on := 35, ground := Ground.guard }], guard := some (35, false) }) (v := ?_) rfl (by kernel_rfl) (by kernel_rfl) (by kernel_rfl) (fun _ _ _ h => h) (Or.inl ⟨by rfl, ?_⟩) E0.out ?_
  rotate_left
  · (intro w1 hS; go_simp; try with_reducible rfl)
  simp only [Act.put, List.setIfInBounds_toArray, List.set_cons_zero, List.set_cons_succ]
  refine wpAnyH_take (i := 43) (oi := { dst := some 95, op := Op.pick (Operand.tmp 87) (Operand.const (Value.bool true)) (Operand.tmp 94), type := 4, pos := "law.go:78", after := #[{ on := 35, ground := Ground.data }, { on := 42, ground := Ground.data }], guard := none }) (v := ?_) rfl (by kernel_rfl) (by kernel_rfl) (by kernel_rfl) (fun _ _ _ h => h) (Or.inl ⟨by rfl, ?_⟩) E0.out ?_
  rotate_left
  · (intro w1 hS; go_simp; try with_reducible rfl)
  simp only [Act.put, List.setIfInBounds_toArray, List.set_cons_zero, List.set_cons_succ]
  refine wpAnyH_take (i := 44) (oi := { dst := some 96, op := Op.move (Operand.tmp 95), type := 4, pos := "law.go:78", after := #[{ on := 43, ground := Ground.data }, { on := 35, ground := Ground.chain }], guard := none }) (v := ?_) rfl (by kernel_rfl) (by kernel_rfl) (by kernel_rfl) (fun _ _ _ h => h) (Or.inl ⟨by rfl, ?_⟩) E0.out ?_
  rotate_left
  · (intro w1 hS; go_simp; try with_reducible rfl)
  simp only [Act.put, List.setIfInBounds_toArray, List.set_cons_zero, List.set_cons_succ]
  refine wpAnyH_take (i := 45) (oi := { dst := some 97, op := Op.move (Operand.tmp 12), type := 22, pos := "law.go:78", after := #[{ on := 44, ground := Ground.guard }], guard := some (44, false) }) (v := ?_) rfl (by kernel_rfl) (by kernel_rfl) (by kernel_rfl) (fun _ _ _ h => h) (Or.inl ⟨by rfl, ?_⟩) E0.out ?_
  rotate_left
  · (intro w1 hS; go_simp; try with_reducible rfl)
  simp only [Act.put, List.setIfInBounds_toArray, List.set_cons_zero, List.set_cons_succ]
  refine wpAnyH_take (i := 46) (oi := { dst := some 98, op := Op.slice 22 (Operand.tmp 97) (some (Operand.const (Value.int IntKind.i64 20))) none none, type := 22, pos := "law.go:78", after := #[{ on := 45, ground := Ground.data }, { on := 44, ground := Ground.guard }], guard := some (44, false) }) (v := ?_) rfl (by kernel_rfl) (by kernel_rfl) (by kernel_rfl) (fun _ _ _ h => h) (Or.inl ⟨by rfl, ?_⟩) E0.out ?_
  rotate_left
  · (intro w1 hS; have hW := hS; have q : (20 : Int) ≤ 20 + (L : Int) := (by omega); clear hW hS; go_simp; try with_reducible rfl)
  simp only [Act.put, List.setIfInBounds_toArray, List.set_cons_zero, List.set_cons_succ]
  refine wpAnyH_take (i := 47) (oi := { dst := some 99, op := Op.convert 22 9 (Operand.tmp 98), type := 9, pos := "law.go:78", after := #[{ on := 46, ground := Ground.data }, { on := 44, ground := Ground.guard }], guard := some (44, false) }) (v := ?_) rfl (by kernel_rfl) (by kernel_rfl) (by kernel_rfl) (fun _ _ _ h => h) (Or.inl ⟨by rfl, ?_⟩) E0.out ?_
  rotate_left
  · (intro w1 hS; have hW := hS; have q := U3.out w1 hW; clear hW hS; go_simp; try with_reducible rfl)
  simp only [Act.put, List.setIfInBounds_toArray, List.set_cons_zero, List.set_cons_succ]
  refine wpAnyH_take (i := 48) (oi := { dst := some 100, op := Op.move (Operand.tmp 11), type := 22, pos := "law.go:78", after := #[{ on := 44, ground := Ground.guard }], guard := some (44, false) }) (v := ?_) rfl (by kernel_rfl) (by kernel_rfl) (by kernel_rfl) (fun _ _ _ h => h) (Or.inl ⟨by rfl, ?_⟩) E0.out ?_
  rotate_left
  · (intro w1 hS; go_simp; try with_reducible rfl)
  simp only [Act.put, List.setIfInBounds_toArray, List.set_cons_zero, List.set_cons_succ]
  refine wpAnyH_take (i := 49) (oi := { dst := some 101, op := Op.slice 22 (Operand.tmp 100) (some (Operand.const (Value.int IntKind.i64 20))) none none, type := 22, pos := "law.go:78", after := #[{ on := 48, ground := Ground.data }, { on := 44, ground := Ground.guard }], guard := some (44, false) }) (v := ?_) rfl (by kernel_rfl) (by kernel_rfl) (by kernel_rfl) (fun _ _ _ h => h) (Or.inl ⟨by rfl, ?_⟩) E0.out ?_
  rotate_left
  · (intro w1 hS; have hW := hS; have q : (20 : Int) ≤ 20 + (L : Int) := (by omega); clear hW hS; go_simp; try with_reducible rfl)
  simp only [Act.put, List.setIfInBounds_toArray, List.set_cons_zero, List.set_cons_succ]
  refine wpAnyH_take (i := 50) (oi := { dst := some 102, op := Op.convert 22 9 (Operand.tmp 101), type := 9, pos := "law.go:78", after := #[{ on := 49, ground := Ground.data }, { on := 44, ground := Ground.guard }], guard := some (44, false) }) (v := ?_) rfl (by kernel_rfl) (by kernel_rfl) (by kernel_rfl) (fun _ _ _ h => h) (Or.inl ⟨by rfl, ?_⟩) E0.out ?_
  rotate_left
  · (intro w1 hS; have hW := hS; have q := V3.out w1 hW; clear hW hS; go_simp; try with_reducible rfl)
  simp only [Act.put, List.setIfInBounds_toArray, List.set_cons_zero, List.set_cons_succ]
  refine wpAnyH_take (i := 51) (oi := { dst := some 103, op := Op.binOp BinOp.neq 9 (Operand.tmp 99) (Operand.tmp 102) 9, type := 4, pos := "law.go:78", after := #[{ on := 47, ground := Ground.data }, { on := 50, ground := Ground.data }, { on := 44, ground := Ground.guard }], guard := some (44, false) }) (v := ?_) rfl (by kernel_rfl) (by kernel_rfl) (by kernel_rfl) (fun _ _ _ h => h) (Or.inl ⟨by rfl, ?_⟩) E0.out ?_
  rotate_left
  · (intro w1 hS; go_simp; try with_reducible rfl)
  simp only [Act.put, List.setIfInBounds_toArray, List.set_cons_zero, List.set_cons_succ]
  refine wpAnyH_take (i := 52) (oi := { dst := some 104, op := Op.pick (Operand.tmp 96) (Operand.const (Value.bool true)) (Operand.tmp 103), type := 4, pos := "law.go:78", after := #[{ on := 44, ground := Ground.data }, { on := 51, ground := Ground.data }], guard := none }) (v := ?_) rfl (by kernel_rfl) (by kernel_rfl) (by kernel_rfl) (fun _ _ _ h => h) (Or.inl ⟨by rfl, ?_⟩) E0.out ?_
  rotate_left
  · (intro w1 hS; go_simp; try with_reducible rfl)
  simp only [Act.put, List.setIfInBounds_toArray, List.set_cons_zero, List.set_cons_succ]
  refine wpAnyH_done (by kernel_rfl) ?_ _
  generalize (if cc = 20 then some (⟨gc, 0, none⟩ : Addr) else some ⟨gc, 20, none⟩) = z1
  generalize (if cb = 20 then some (⟨gb, 0, none⟩ : Addr) else some ⟨gb, 20, none⟩) = z2
  have EE := E0
  clear E0 U1 U2 U3 V2 V3 QS QT hp1 hp2 kp1 kp2 H12 A12 T12
  go_wp2_with fail
  refine wp_region_held (S := (fun w' : World => Below Y0.heap.size Y0 w')) (by kernel_rfl) ?_
  change wpAnyH _ _ _ _ _ _ _ _ Y0.drew
  have hE0 : Below Y0.heap.size Y0 Y0.drew := (Below.refl _ _).drew
  generalize Y0.drew = X0 at hE0  ⊢
  have E0 := Lib.hid hE0
  clear hE0 
  refine wpAnyH_take (i := 0) (oi := { dst := some 105, op := Op.move (Operand.tmp 15), type := 22, pos := "law.go:81", after := #[], guard := none }) (v := ?_) rfl (by kernel_rfl) (by kernel_rfl) (by kernel_rfl) (fun _ _ _ h => h) (Or.inl ⟨by rfl, ?_⟩) E0.out ?_
  rotate_left
  · (intro w1 hS; go_simp; try with_reducible rfl)
  simp only [Act.put, List.setIfInBounds_toArray, List.set_cons_zero, List.set_cons_succ]
  refine wpAnyH_take (i := 1) (oi := { dst := some 106, op := Op.call { callee := Callee.builtin Builtin.len, args := #[Operand.tmp 105], argTypes := #[22] }, type := 3, pos := "law.go:81", after := #[{ on := 0, ground := Ground.data }], guard := none }) (v := ?_) rfl (by kernel_rfl) (by kernel_rfl) (by kernel_rfl) (fun _ _ _ h => h) (Or.inl ⟨by rfl, ?_⟩) E0.out ?_
  rotate_left
  · (intro w1 hS; go_simp; try with_reducible rfl)
  simp only [Act.put, List.setIfInBounds_toArray, List.set_cons_zero, List.set_cons_succ]
  refine wpAnyH_take (i := 2) (oi := { dst := some 107, op := Op.move (Operand.tmp 11), type := 22, pos := "law.go:81", after := #[], guard := none }) (v := ?_) rfl (by kernel_rfl) (by kernel_rfl) (by kernel_rfl) (fun _ _ _ h => h) (Or.inl ⟨by rfl, ?_⟩) E0.out ?_
  rotate_left
  · (intro w1 hS; go_simp; try with_reducible rfl)
  simp only [Act.put, List.setIfInBounds_toArray, List.set_cons_zero, List.set_cons_succ]
  refine wpAnyH_take (i := 3) (oi := { dst := some 108, op := Op.call { callee := Callee.builtin Builtin.len, args := #[Operand.tmp 107], argTypes := #[22] }, type := 3, pos := "law.go:81", after := #[{ on := 2, ground := Ground.data }], guard := none }) (v := ?_) rfl (by kernel_rfl) (by kernel_rfl) (by kernel_rfl) (fun _ _ _ h => h) (Or.inl ⟨by rfl, ?_⟩) E0.out ?_
  rotate_left
  · (intro w1 hS; go_simp; try with_reducible rfl)
  simp only [Act.put, List.setIfInBounds_toArray, List.set_cons_zero, List.set_cons_succ]
  refine wpAnyH_take (i := 4) (oi := { dst := some 109, op := Op.binOp BinOp.eql 3 (Operand.tmp 106) (Operand.tmp 108) 3, type := 4, pos := "law.go:81", after := #[{ on := 1, ground := Ground.data }, { on := 3, ground := Ground.data }], guard := none }) (v := ?_) rfl (by kernel_rfl) (by kernel_rfl) (by kernel_rfl) (fun _ _ _ h => h) (Or.inl ⟨by rfl, ?_⟩) E0.out ?_
  rotate_left
  · (intro w1 hS; go_simp; try with_reducible rfl)
  simp only [Act.put, List.setIfInBounds_toArray, List.set_cons_zero, List.set_cons_succ]
  refine wpAnyH_take (i := 5) (oi := { dst := some 110, op := Op.move (Operand.tmp 109), type := 4, pos := "law.go:81", after := #[{ on := 4, ground := Ground.data }], guard := none }) (v := ?_) rfl (by kernel_rfl) (by kernel_rfl) (by kernel_rfl) (fun _ _ _ h => h) (Or.inl ⟨by rfl, ?_⟩) E0.out ?_
  rotate_left
  · (intro w1 hS; go_simp; try with_reducible rfl)
  simp only [Act.put, List.setIfInBounds_toArray, List.set_cons_zero, List.set_cons_succ]
  refine wpAnyH_take (i := 6) (oi := { dst := some 111, op := Op.move (Operand.tmp 15), type := 22, pos := "law.go:81", after := #[{ on := 5, ground := Ground.guard }], guard := some (5, true) }) (v := ?_) rfl (by kernel_rfl) (by kernel_rfl) (by kernel_rfl) (fun _ _ _ h => h) (Or.inl ⟨by rfl, ?_⟩) E0.out ?_
  rotate_left
  · (intro w1 hS; go_simp; try with_reducible rfl)
  simp only [Act.put, List.setIfInBounds_toArray, List.set_cons_zero, List.set_cons_succ]
  refine wpAnyH_take (i := 7) (oi := { dst := some 112, op := Op.slice 22 (Operand.tmp 111) none (some (Operand.const (Value.int IntKind.i64 10))) none, type := 22, pos := "law.go:81", after := #[{ on := 6, ground := Ground.data }, { on := 5, ground := Ground.guard }], guard := some (5, true) }) (v := ?_) rfl (by kernel_rfl) (by kernel_rfl) (by kernel_rfl) (fun _ _ _ h => h) (Or.inl ⟨by rfl, ?_⟩) E0.out ?_
  rotate_left
  · (intro w1 hS; have hW := hS; have q : (10 : Int) ≤ (cd : Int) := (by omega); clear hW hS; go_simp; try with_reducible rfl)
  simp only [Act.put, List.setIfInBounds_toArray, List.set_cons_zero, List.set_cons_succ]
  refine wpAnyH_take (i := 8) (oi := { dst := some 113, op := Op.convert 22 9 (Operand.tmp 112), type := 9, pos := "law.go:81", after := #[{ on := 7, ground := Ground.data }, { on := 5, ground := Ground.guard }], guard := some (5, true) }) (v := ?_) rfl (by kernel_rfl) (by kernel_rfl) (by kernel_rfl) (fun _ _ _ h => h) (Or.inl ⟨by rfl, ?_⟩) E0.out ?_
  rotate_left
  · (intro w1 hS; have hW := hS; have q := Q1.out w1 (EE.out.trans (hW.mono EE.out.size)); clear hW hS; go_simp; try with_reducible rfl)
  simp only [Act.put, List.setIfInBounds_toArray, List.set_cons_zero, List.set_cons_succ]
  refine wpAnyH_take (i := 9) (oi := { dst := some 114, op := Op.move (Operand.tmp 11), type := 22, pos := "law.go:81", after := #[{ on := 5, ground := Ground.guard }], guard := some (5, true) }) (v := ?_) rfl (by kernel_rfl) (by kernel_rfl) (by kernel_rfl) (fun _ _ _ h => h) (Or.inl ⟨by rfl, ?_⟩) E0.out ?_
  rotate_left
  · (intro w1 hS; go_simp; try with_reducible rfl)
  simp only [Act.put, List.setIfInBounds_toArray, List.set_cons_zero, List.set_cons_succ]
  refine wpAnyH_take (i := 10) (oi := { dst := some 115, op := Op.slice 22 (Operand.tmp 114) none (some (Operand.const (Value.int IntKind.i64 10))) none, type := 22, pos := "law.go:81", after := #[{ on := 9, ground := Ground.data }, { on := 5, ground := Ground.guard }], guard := some (5, true) }) (v := ?_) rfl (by kernel_rfl) (by kernel_rfl) (by kernel_rfl) (fun _ _ _ h => h) (Or.inl ⟨by rfl, ?_⟩) E0.out ?_
  rotate_left
  · (intro w1 hS; have hW := hS; have q : (10 : Int) ≤ (cb : Int) := (by omega); clear hW hS; go_simp; try with_reducible rfl)
  simp only [Act.put, List.setIfInBounds_toArray, List.set_cons_zero, List.set_cons_succ]
  refine wpAnyH_take (i := 11) (oi := { dst := some 116, op := Op.convert 22 9 (Operand.tmp 115), type := 9, pos := "law.go:81", after := #[{ on := 10, ground := Ground.data }, { on := 5, ground := Ground.guard }], guard := some (5, true) }) (v := ?_) rfl (by kernel_rfl) (by kernel_rfl) (by kernel_rfl) (fun _ _ _ h => h) (Or.inl ⟨by rfl, ?_⟩) E0.out ?_
  rotate_left
  · (intro w1 hS; have hW := hS; have q := V1.out w1 (EE.out.trans (hW.mono EE.out.size)); clear hW hS; go_simp; try with_reducible rfl)
  simp only [Act.put, List.setIfInBounds_toArray, List.set_cons_zero, List.set_cons_succ]
  refine wpAnyH_take (i := 12) (oi := { dst := some 117, op := Op.binOp BinOp.eql 9 (Operand.tmp 113) (Operand.tmp 116) 9, type := 4, pos := "law.go:81", after := #[{ on := 8, ground := Ground.data }, { on := 11, ground := Ground.data }, { on := 5, ground := Ground.guard }], guard := some (5, true) }) (v := ?_) rfl (by kernel_rfl) (by kernel_rfl) (by kernel_rfl) (fun _ _ _ h => h) (Or.inl ⟨by rfl, ?_⟩) E0.out ?_
  rotate_left
  · (intro w1 hS; go_simp; try with_reducible rfl)
  simp only [Act.put, List.setIfInBounds_toArray, List.set_cons_zero, List.set_cons_succ]
  refine wpAnyH_take (i := 13) (oi := { dst := some 118, op := Op.pick (Operand.tmp 110) (Operand.tmp 117) (Operand.const (Value.bool false)), type := 4, pos := "law.go:81", after := #[{ on := 5, ground := Ground.data }, { on := 12, ground := Ground.data }], guard := none }) (v := ?_) rfl (by kernel_rfl) (by kernel_rfl) (by kernel_rfl) (fun _ _ _ h => h) (Or.inl ⟨by rfl, ?_⟩) E0.out ?_
  rotate_left
  · (intro w1 hS; go_simp; try with_reducible rfl)
  simp only [Act.put, List.setIfInBounds_toArray, List.set_cons_zero, List.set_cons_succ]
  refine wpAnyH_take (i := 14) (oi := { dst := some 119, op := Op.move (Operand.tmp 118), type := 4, pos := "law.go:81", after := #[{ on := 13, ground := Ground.data }, { on := 5, ground := Ground.chain }], guard := none }) (v := ?_) rfl (by kernel_rfl) (by kernel_rfl) (by kernel_rfl) (fun _ _ _ h => h) (Or.inl ⟨by rfl, ?_⟩) E0.out ?_
  rotate_left
  · (intro w1 hS; go_simp; try with_reducible rfl)
  simp only [Act.put, List.setIfInBounds_toArray, List.set_cons_zero, List.set_cons_succ]
  refine wpAnyH_take (i := 15) (oi := { dst := some 120, op := Op.move (Operand.tmp 15), type := 22, pos := "law.go:81", after := #[{ on := 14, ground := Ground.guard }], guard := some (14, true) }) (v := ?_) rfl (by kernel_rfl) (by kernel_rfl) (by kernel_rfl) (fun _ _ _ h => h) (Or.inl ⟨by rfl, ?_⟩) E0.out ?_
  rotate_left
  · (intro w1 hS; go_simp; try with_reducible rfl)
  simp only [Act.put, List.setIfInBounds_toArray, List.set_cons_zero, List.set_cons_succ]
  refine wpAnyH_take (i := 16) (oi := { dst := some 121, op := Op.slice 22 (Operand.tmp 120) (some (Operand.const (Value.int IntKind.i64 12))) none none, type := 22, pos := "law.go:81", after := #[{ on := 15, ground := Ground.data }, { on := 14, ground := Ground.guard }], guard := some (14, true) }) (v := ?_) rfl (by kernel_rfl) (by kernel_rfl) (by kernel_rfl) (fun _ _ _ h => h) (Or.inl ⟨by rfl, ?_⟩) E0.out ?_
  rotate_left
  · (intro w1 hS; have hW := hS; have q : (12 : Int) ≤ 20 + (L : Int) := (by omega); have q2 : (cd = 12) = False := (eq_false (by omega)); clear hW hS; go_simp; try with_reducible rfl)
  simp only [Act.put, List.setIfInBounds_toArray, List.set_cons_zero, List.set_cons_succ]
  refine wpAnyH_take (i := 17) (oi := { dst := some 122, op := Op.convert 22 9 (Operand.tmp 121), type := 9, pos := "law.go:81", after := #[{ on := 16, ground := Ground.data }, { on := 14, ground := Ground.guard }], guard := some (14, true) }) (v := ?_) rfl (by kernel_rfl) (by kernel_rfl) (by kernel_rfl) (fun _ _ _ h => h) (Or.inl ⟨by rfl, ?_⟩) E0.out ?_
  rotate_left
  · (intro w1 hS; have hW := hS; have q := Q4.out w1 (EE.out.trans (hW.mono EE.out.size)); clear hW hS; go_simp; try with_reducible rfl)
  simp only [Act.put, List.setIfInBounds_toArray, List.set_cons_zero, List.set_cons_succ]
  refine wpAnyH_take (i := 18) (oi := { dst := some 123, op := Op.move (Operand.tmp 11), type := 22, pos := "law.go:81", after := #[{ on := 14, ground := Ground.guard }], guard := some (14, true) }) (v := ?_) rfl (by kernel_rfl) (by kernel_rfl) (by kernel_rfl) (fun _ _ _ h => h) (Or.inl ⟨by rfl, ?_⟩) E0.out ?_
  rotate_left
  · (intro w1 hS; go_simp; try with_reducible rfl)
  simp only [Act.put, List.setIfInBounds_toArray, List.set_cons_zero, List.set_cons_succ]
  refine wpAnyH_take (i := 19) (oi := { dst := some 124, op := Op.slice 22 (Operand.tmp 123) (some (Operand.const (Value.int IntKind.i64 12))) none none, type := 22, pos := "law.go:81", after := #[{ on := 18, ground := Ground.data }, { on := 14, ground := Ground.guard }], guard := some (14, true) }) (v := ?_) rfl (by kernel_rfl) (by kernel_rfl) (by kernel_rfl) (fun _ _ _ h => h) (Or.inl ⟨by rfl, ?_⟩) E0.out ?_
  rotate_left
  · (intro w1 hS; have hW := hS; have q : (12 : Int) ≤ 20 + (L : Int) := (by omega); have q2 : (cb = 12) = False := (eq_false (by omega)); clear hW hS; go_simp; try with_reducible rfl)
  simp only [Act.put, List.setIfInBounds_toArray, List.set_cons_zero, List.set_cons_succ]
  refine wpAnyH_take (i := 20) (oi := { dst := some 125, op := Op.convert 22 9 (Operand.tmp 124), type := 9, pos := "law.go:81", after := #[{ on := 19, ground := Ground.data }, { on := 14, ground := Ground.guard }], guard := some (14, true) }) (v := ?_) rfl (by kernel_rfl) (by kernel_rfl) (by kernel_rfl) (fun _ _ _ h => h) (Or.inl ⟨by rfl, ?_⟩) E0.out ?_
  rotate_left
  · (intro w1 hS; have hW := hS; have q := V4.out w1 (EE.out.trans (hW.mono EE.out.size)); clear hW hS; go_simp; try with_reducible rfl)
  simp only [Act.put, List.setIfInBounds_toArray, List.set_cons_zero, List.set_cons_succ]
  refine wpAnyH_take (i := 21) (oi := { dst := some 126, op := Op.binOp BinOp.eql 9 (Operand.tmp 122) (Operand.tmp 125) 9, type := 4, pos := "law.go:81", after := #[{ on := 17, ground := Ground.data }, { on := 20, ground := Ground.data }, { on := 14, ground := Ground.guard }], guard := some (14, true) }) (v := ?_) rfl (by kernel_rfl) (by kernel_rfl) (by kernel_rfl) (fun _ _ _ h => h) (Or.inl ⟨by rfl, ?_⟩) E0.out ?_
  rotate_left
  · (intro w1 hS; go_simp; try with_reducible rfl)
  simp only [Act.put, List.setIfInBounds_toArray, List.set_cons_zero, List.set_cons_succ]
  refine wpAnyH_take (i := 22) (oi := { dst := some 127, op := Op.pick (Operand.tmp 119) (Operand.tmp 126) (Operand.const (Value.bool false)), type := 4, pos := "law.go:81", after := #[{ on := 14, ground := Ground.data }, { on := 21, ground := Ground.data }], guard := none }) (v := ?_) rfl (by kernel_rfl) (by kernel_rfl) (by kernel_rfl) (fun _ _ _ h => h) (Or.inl ⟨by rfl, ?_⟩) E0.out ?_
  rotate_left
  · (intro w1 hS; go_simp; try with_reducible rfl)
  simp only [Act.put, List.setIfInBounds_toArray, List.set_cons_zero, List.set_cons_succ]
  refine wpAnyH_take (i := 23) (oi := { dst := some 128, op := Op.move (Operand.tmp 127), type := 4, pos := "law.go:81", after := #[{ on := 22, ground := Ground.data }, { on := 14, ground := Ground.chain }], guard := none }) (v := ?_) rfl (by kernel_rfl) (by kernel_rfl) (by kernel_rfl) (fun _ _ _ h => h) (Or.inl ⟨by rfl, ?_⟩) E0.out ?_
  rotate_left
  · (intro w1 hS; go_simp; try with_reducible rfl)
  simp only [Act.put, List.setIfInBounds_toArray, List.set_cons_zero, List.set_cons_succ]
  refine wpAnyH_ready (rs := [24]) (by kernel_rfl) (by simp) ?_
  refine AllReadyH.cons (o := { dst := some 129, op := Op.call { callee := Callee.value (Operand.func 8), args := #[], argTypes := #[] }, type := 4, pos := "law.go:81", after := #[{ on := 23, ground := Ground.chain }, { on := 23, ground := Ground.guard }], guard := some (23, true) }) rfl (fun K hK => ?_) AllReadyH.nil
  go_simp
  refine (awake_any X0).mono ?_
  rintro e X1 ⟨rfl, hy⟩
  have E1 := Lib.hid (E0.out.trans (hy.mono E0.out.size))
  have C1 := Lib.hid E1.out
  clear hy E0
  refine hK.out _ _ C1.out (fun _ => ?_)
  clear hK K
  refine wpAnyH_mono (S' := (fun w' : World => Below X1.heap.size X1 w')) (fun w1 h => C1.out.trans (h.mono C1.out.size)) _ _ _ _ ?_
  clear C1
  try simp only [Act.put, List.setIfInBounds_toArray, List.set_cons_zero, List.set_cons_succ]
  refine wpAnyH_take (i := 25) (oi := { dst := some 130, op := Op.pick (Operand.tmp 128) (Operand.tmp 129) (Operand.const (Value.bool false)), type := 4, pos := "law.go:81", after := #[{ on := 23, ground := Ground.data }, { on := 24, ground := Ground.data }], guard := none }) (v := ?_) rfl (by kernel_rfl) (by kernel_rfl) (by kernel_rfl) (fun _ _ _ h => h) (Or.inl ⟨by rfl, ?_⟩) (Below.refl _ _) ?_
  rotate_left
  · (intro w1 hS; go_simp; try with_reducible rfl)
  simp only [Act.put, List.setIfInBounds_toArray, List.set_cons_zero, List.set_cons_succ]
  refine wpAnyH_take (i := 26) (oi := { dst := some 6, op := Op.assign (Operand.tmp 130), type := 4, pos := "law.go:81", after := #[{ on := 25, ground := Ground.data }, { on := 24, ground := Ground.chain }, { on := 0, ground := Ground.phase }, { on := 1, ground := Ground.phase }, { on := 2, ground := Ground.phase }, { on := 3, ground := Ground.phase }, { on := 4, ground := Ground.phase }, { on := 5, ground := Ground.phase }, { on := 6, ground := Ground.phase }, { on := 7, ground := Ground.phase }, { on := 8, ground := Ground.phase }, { on := 9, ground := Ground.phase }, { on := 10, ground := Ground.phase }, { on := 11, ground := Ground.phase }, { on := 12, ground := Ground.phase }, { on := 13, ground := Ground.phase }, { on := 14, ground := Ground.phase }, { on := 15, ground := Ground.phase }, { on := 16, ground := Ground.phase }, { on := 17, ground := Ground.phase }, { on := 18, ground := Ground.phase }, { on := 19, ground := Ground.phase }, { on := 20, ground := Ground.phase }, { on := 21, ground := Ground.phase }, { on := 22, ground := Ground.phase }, { on := 23, ground := Ground.phase }, { on := 24, ground := Ground.phase }, { on := 25, ground := Ground.phase }], guard := none }) (v := ?_) rfl (by kernel_rfl) (by kernel_rfl) (by kernel_rfl) (fun _ _ _ h => h) (Or.inl ⟨by rfl, ?_⟩) (Below.refl _ _) ?_
  rotate_left
  · (intro w1 hS; go_simp; try with_reducible rfl)
  simp only [Act.put, List.setIfInBounds_toArray, List.set_cons_zero, List.set_cons_succ]
  refine wpAnyH_done (by kernel_rfl) ?_ _
  go_wp2
  go_ret
  exact ⟨rfl, K12.out.trans (EE.out.trans (E1.out.mono EE.out.size) |>.mono K12.out.size)⟩
end Go.Proofs.Ythjaolngfjfldaa

