/- Texts that the walks of this seat lean on, put together: each has its own remark below. -/
import Derived.Laws.BytesArg
import Derived.Test.YtnfanenaighflaaM01
import Derived.Test.YtnfanenaighflaaM05
import Derived.Test.YtnfanenaighflaaM06

/- bazaarlaw6.awake. -/
namespace Go.Proofs.Ytnfanenaighflaa
open Go.RowKit

theorem eq_cells (v : Bool) (bs : List Nat) (hl : bs.length = 16) (hb : ∀ n ∈ bs, n < 256) (c : Array Value) (hc : c = cellsA v bs) (w : World) : (Op.equalIn 10000 25 (.agg c) (.agg c)).run Try.prog w = .ok true w := by
  rw [hc]; exact eq_adr v bs hl hb w
def s5 : List Nat := [10, 0, 0, 5, 0, 0, 0, 0, 0, 0, 0, 0, 0, 0, 0, 0]
def d5 : List Nat := [192, 168, 0, 1, 0, 0, 0, 0, 0, 0, 0, 0, 0, 0, 0, 0]
def e5 : List Nat := [172, 16, 0, 2, 0, 0, 0, 0, 0, 0, 0, 0, 0, 0, 0, 0]
def bB : List Nat := mk6 s5 d5 6 20 ++ List.replicate 20 0
def cB : List Nat := mk6 s5 e5 6 20 ++ List.replicate 20 0
theorem bB_lt : ∀ c ∈ bB, c < 256 := by decide +kernel
theorem cB_lt : ∀ c ∈ cB, c < 256 := by decide +kernel
theorem bB_len : bB.length = 60 := rfl
theorem cB_len : cB.length = 60 := rfl
theorem bB_f : f6 bB = 0 := mk6_f s5 d5 _ 6 20 rfl rfl (by omega) (.inl rfl) (by simp)
theorem cB_f : f6 cB = 0 := mk6_f s5 e5 _ 6 20 rfl rfl (by omega) (.inl rfl) (by simp)
theorem bB_hd : hd6 bB = scells 60 6 (cellsA true s5) (cellsA true d5) := mk6_hd s5 d5 _ 6 20 rfl rfl (by omega) (.inl rfl) (by simp)
theorem cB_hd : hd6 cB = scells 60 6 (cellsA true s5) (cellsA true e5) := mk6_hd s5 e5 _ 6 20 rfl rfl (by omega) (.inl rfl) (by simp)
theorem bB_cut : f6 (bB.take 50) = 1 := mk6_cut s5 d5 _ 6 20 rfl rfl (by omega) 50 (by omega) (by simp)
theorem bB_go : dst6 bB e5 = cB := mk6_go s5 d5 e5 _ 6 20 rfl rfl rfl
theorem z17_lit : z17 = #[Value.bool false, .int .u8 0, .int .u8 0, .int .u8 0, .int .u8 0, .int .u8 0, .int .u8 0, .int .u8 0, .int .u8 0, .int .u8 0, .int .u8 0, .int .u8 0, .int .u8 0, .int .u8 0, .int .u8 0, .int .u8 0, .int .u8 0] := rfl

set_option maxRecDepth 100000 in
set_option maxHeartbeats 4000000 in
theorem awake_any (w : World) : Calls Try.prog 8 #[] w fun e w' => e = .returned (.bool true) ∧ Below w.heap.size w w' := by
  obtain ⟨S, hS⟩ : ∃ S, S = cellsA true s5 := ⟨_, rfl⟩
  obtain ⟨D, hD⟩ : ∃ D, D = cellsA true d5 := ⟨_, rfl⟩
  obtain ⟨E, hE⟩ : ∃ E, E = cellsA true e5 := ⟨_, rfl⟩
  have zS : S.size = 17 := by rw [hS]; rfl
  have zD : D.size = 17 := by rw [hD]; rfl
  have zE : E.size = 17 := by rw [hE]; rfl
  obtain ⟨kc, hkc⟩ : ∃ kc, kc = kcells 6 S D 1005 80 := ⟨_, rfl⟩
  obtain ⟨dc, hdc⟩ : ∃ dc, dc = dcells E 8001 := ⟨_, rfl⟩
  obtain ⟨hb1, hhb⟩ : ∃ c, c = scells 60 6 S D := ⟨_, rfl⟩
  obtain ⟨hc1, hhc⟩ : ∃ c, c = scells 60 6 S E := ⟨_, rfl⟩
  have CK := Lib.hid (show ∀ W, Calls Try.prog 15 #[.int .i64 5, .bool true, .bool false] W fun e w' => e = .returned (.agg kc) ∧ Below W.heap.size W w' from fun W => by rw [hkc, hS, hD]; exact key_tcp 5 true 5 1005 W (show (5 : Int) % 1073741824 = ((5 : Nat) : Int) by decide) (by omega) rfl)
  have CM := Lib.hid (show ∀ W, Calls Try.prog 11 #[.agg S, .agg D, .int .u8 6, .int .i64 20] W fun e w' => ∃ x, e = .returned (.tuple #[x, .bool true]) ∧ w'.ownsRow W.heap.size 5 1 x 40 (nus .u8 (mk6 s5 d5 6 20)) ∧ Below W.heap.size W w' from fun W => by rw [hS, hD]; exact make_yes s5 d5 6 20 W rfl rfl (by omega))
  have CN := Lib.hid (show ∀ W, Calls Try.prog 11 #[.agg S, .agg #[Value.bool false, .int .u8 0, .int .u8 0, .int .u8 0, .int .u8 0, .int .u8 0, .int .u8 0, .int .u8 0, .int .u8 0, .int .u8 0, .int .u8 0, .int .u8 0, .int .u8 0, .int .u8 0, .int .u8 0, .int .u8 0, .int .u8 0], .int .u8 6, .int .i64 0] W fun e w' => e = .returned (.tuple #[.slice none 0 0, .bool false]) ∧ Below W.heap.size W w' from fun W => by rw [hS]; exact make_no true false s5 (List.replicate 16 0) 6 0 W rfl)
  have CR := Lib.hid (show ∀ W z, Rd W z (nus .u8 bB) → Calls Try.prog 9 #[z] W fun e w' => e = .returned (.tuple #[.agg hb1, .int .i64 0]) ∧ Below W.heap.size W w' from fun W z h => by have := read_any z bB W h bB_lt; rw [bB_hd, bB_f] at this; rw [hhb, hS, hD]; exact this)
  have CT := Lib.hid (show ∀ W z, Rd W z (nus .u8 (bB.take 50)) → Calls Try.prog 9 #[z] W fun e w' => e = .returned (.tuple #[.agg s0, .int .i64 1]) ∧ Below W.heap.size W w' from fun W z h => by have := read_no z (bB.take 50) W h (fun c hc => bB_lt c (List.mem_of_mem_take hc)) (by rw [bB_cut]; decide); rw [bB_cut] at this; exact this)
  have CU := Lib.hid (show ∀ W z, Rd W z (nus .u8 cB) → Calls Try.prog 9 #[z] W fun e w' => e = .returned (.tuple #[.agg hc1, .int .i64 0]) ∧ Below W.heap.size W w' from fun W z h => by have := read_any z cB W h cB_lt; rw [cB_hd, cB_f] at this; rw [hhc, hS, hE]; exact this)
  have CD := Lib.hid (show ∀ W z, Rd W z (nus .u8 bB) → Calls Try.prog 13 #[z, .agg E] W fun e w' => ∃ x, e = .returned x ∧ w'.ownsRow W.heap.size 5 1 x 60 (nus .u8 cB) ∧ Below W.heap.size W w' from fun W z h => by have := dest_yes z bB e5 W h bB_lt bB_f (by rw [bB_len]; omega) rfl; rw [bB_len, bB_go] at this; rw [hE]; exact this)
  have CX := Lib.hid (show ∀ W z, Rd W z (nus .u8 bB) → Calls Try.prog 13 #[z, .agg #[Value.bool false, .int .u8 0, .int .u8 0, .int .u8 0, .int .u8 0, .int .u8 0, .int .u8 0, .int .u8 0, .int .u8 0, .int .u8 0, .int .u8 0, .int .u8 0, .int .u8 0, .int .u8 0, .int .u8 0, .int .u8 0, .int .u8 0]] W fun e w' => e = .returned (.slice none 0 0) ∧ Below W.heap.size W w' from fun W z h => dest_no z bB false (List.replicate 16 0) W h bB_lt (.inr rfl))
  have CP := Lib.hid (show ∀ W, Calls Try.prog 16 #[.int .i64 1, .bool true] W fun e w' => e = .returned (.agg dc) ∧ Below W.heap.size W w' from fun W => by rw [hdc, hE]; exact dip_at 1 true 8001 1 W (show (1 : Int) % 1000 = ((8001 : Nat) : Int) - 8000 by decide) (show (1 : Int) % 200 = ((1 : Nat) : Int) by decide) (by omega) (by omega) (by omega))
  have kp1 := Lib.hid (show (kc.toList.drop 1).take S.toList.length = S.toList by rw [hkc]; exact kcells_src _ _ _ _ _)
  have kp2 := Lib.hid (show (kc.toList.drop 18).take D.toList.length = D.toList by rw [hkc]; exact kcells_dst _ _ _ _ _ zS)
  have hp2 := Lib.hid (show (hb1.toList.drop 19).take D.toList.length = D.toList by rw [hhb]; exact scells_dst _ _ _ _ zS)
  have hp4 := Lib.hid (show (hc1.toList.drop 19).take E.toList.length = E.toList by rw [hhc]; exact scells_dst _ _ _ _ zS)
  have hg0 := Lib.hid (show hb1[0]? = some (.int .i64 60) by rw [hhb]; rfl)
  have FD := Lib.hid (show ∀ W, (Instr.field 45 (.agg dc) 0).run Try.prog W = .ok (.agg E) W from fun W => by rw [hdc]; exact dip_addr E 8001 zE W)
  have QD := Lib.hid (fun W => eq_cells true d5 rfl (by decide) D hD W)
  have QE := Lib.hid (fun W => eq_cells true e5 rfl (by decide) E hE W)
  have IS := Lib.hid (i24.trans (congrArg some (show (17 : Nat) = S.toList.length by simp [zS])))
  have ID := Lib.hid (i24.trans (congrArg some (show (17 : Nat) = D.toList.length by simp [zD])))
  have IE := Lib.hid (i24.trans (congrArg some (show (17 : Nat) = E.toList.length by simp [zE])))
  have zk : kc.size = 37 := by rw [hkc]; exact kcells_size _ _ _ _ _ zS zD
  have zh : hb1.size = 36 := by rw [hhb]; exact scells_size _ _ _ _ zS zD
  have zc : hc1.size = 36 := by rw [hhc]; exact scells_size _ _ _ _ zS zE
  have AS : S.all (·.oneCell') = true := by rw [hS]; exact cellsA_all _ _
  have AD : D.all (·.oneCell') = true := by rw [hD]; exact cellsA_all _ _
  have AE : E.all (·.oneCell') = true := by rw [hE]; exact cellsA_all _ _
  have Ak := Lib.hid (show kc.all (·.oneCell') = true by rw [hkc]; exact kcells_all _ _ _ _ _ AS AD)
  have Ah := Lib.hid (show hb1.all (·.oneCell') = true by rw [hhb]; exact scells_all _ _ _ _ AS AD)
  have Ac := Lib.hid (show hc1.all (·.oneCell') = true by rw [hhc]; exact scells_all _ _ _ _ AS AE)
  have A0 := Lib.hid s0_all
  have Zk := Lib.hid (i42.trans (congrArg some zk.symm))
  have Yk : Hid (kc.size = Array.size (#[Value.int .u8 0, .bool false, .int .u8 0, .int .u8 0, .int .u8 0, .int .u8 0, .int .u8 0, .int .u8 0, .int .u8 0, .int .u8 0, .int .u8 0, .int .u8 0, .int .u8 0, .int .u8 0, .int .u8 0, .int .u8 0, .int .u8 0, .int .u8 0, .bool false, .int .u8 0, .int .u8 0, .int .u8 0, .int .u8 0, .int .u8 0, .int .u8 0, .int .u8 0, .int .u8 0, .int .u8 0, .int .u8 0, .int .u8 0, .int .u8 0, .int .u8 0, .int .u8 0, .int .u8 0, .int .u8 0, .int .u16 0, .int .u16 0] : Array Value)) := zk
  have Zh := Lib.hid (i36.trans (congrArg some zh.symm))
  have Yh : Hid (hb1.size = Array.size (#[Value.int .i64 0, .int .u8 0, .bool false, .int .u8 0, .int .u8 0, .int .u8 0, .int .u8 0, .int .u8 0, .int .u8 0, .int .u8 0, .int .u8 0, .int .u8 0, .int .u8 0, .int .u8 0, .int .u8 0, .int .u8 0, .int .u8 0, .int .u8 0, .int .u8 0, .bool false, .int .u8 0, .int .u8 0, .int .u8 0, .int .u8 0, .int .u8 0, .int .u8 0, .int .u8 0, .int .u8 0, .int .u8 0, .int .u8 0, .int .u8 0, .int .u8 0, .int .u8 0, .int .u8 0, .int .u8 0, .int .u8 0] : Array Value)) := zh
  have Zc := Lib.hid (i36.trans (congrArg some zc.symm))
  have Yc : Hid (hc1.size = Array.size (#[Value.int .i64 0, .int .u8 0, .bool false, .int .u8 0, .int .u8 0, .int .u8 0, .int .u8 0, .int .u8 0, .int .u8 0, .int .u8 0, .int .u8 0, .int .u8 0, .int .u8 0, .int .u8 0, .int .u8 0, .int .u8 0, .int .u8 0, .int .u8 0, .int .u8 0, .bool false, .int .u8 0, .int .u8 0, .int .u8 0, .int .u8 0, .int .u8 0, .int .u8 0, .int .u8 0, .int .u8 0, .int .u8 0, .int .u8 0, .int .u8 0, .int .u8 0, .int .u8 0, .int .u8 0, .int .u8 0, .int .u8 0] : Array Value)) := zc
  have Z0 := Lib.hid (i36.trans (congrArg some s0_size.symm))
  have Y0 : Hid (s0.size = Array.size (#[Value.int .i64 0, .int .u8 0, .bool false, .int .u8 0, .int .u8 0, .int .u8 0, .int .u8 0, .int .u8 0, .int .u8 0, .int .u8 0, .int .u8 0, .int .u8 0, .int .u8 0, .int .u8 0, .int .u8 0, .int .u8 0, .int .u8 0, .int .u8 0, .int .u8 0, .bool false, .int .u8 0, .int .u8 0, .int .u8 0, .int .u8 0, .int .u8 0, .int .u8 0, .int .u8 0, .int .u8 0, .int .u8 0, .int .u8 0, .int .u8 0, .int .u8 0, .int .u8 0, .int .u8 0, .int .u8 0, .int .u8 0] : Array Value)) := s0_size
  have BL := Lib.hid bB_len
  have BD : Hid ([] ++ mk6 s5 d5 6 20 ++ List.replicate 20 0 = bB) := rfl
  have K := Lib.hid (Below.refl w.heap.size w)
  clear hS hD hE hkc hdc hhb hhc zS zD zE zk zh zc AS AD AE
  go_enter Try.func8, Try.ntmps8
  go_wp2_with fail
  refine (CK.out _).mono ?_
  rintro e V1 ⟨rfl, hy⟩
  replace K := Lib.hid (K.out.trans (hy.mono K.out.size))
  clear hy
  go_wp2_with (((with_reducible refine wpList_blk_store (op := ⟨none, .store 42 (.tmp 1) (.tmp 14), _, _, _, _⟩) ?sg1 42 (.tmp 1) (.tmp 14) ?so1 (V1.heap.size) kc ?sx1 ?sy1 (Blk.new V1 42 #[Value.int .u8 0, .bool false, .int .u8 0, .int .u8 0, .int .u8 0, .int .u8 0, .int .u8 0, .int .u8 0, .int .u8 0, .int .u8 0, .int .u8 0, .int .u8 0, .int .u8 0, .int .u8 0, .int .u8 0, .int .u8 0, .int .u8 0, .int .u8 0, .bool false, .int .u8 0, .int .u8 0, .int .u8 0, .int .u8 0, .int .u8 0, .int .u8 0, .int .u8 0, .int .u8 0, .int .u8 0, .int .u8 0, .int .u8 0, .int .u8 0, .int .u8 0, .int .u8 0, .int .u8 0, .int .u8 0, .int .u16 0, .int .u16 0]) Yk.out Zk.out Ak.out ?_); (case sg1 => rfl); (case so1 => rfl); (case sx1 => rfl); (case sy1 => rfl)))
  intro V2 hA hF hB
  have hy := ((Below.refl V1.heap.size V1).alloc (Nat.le_refl _) (.cells #[Value.int .u8 0, .bool false, .int .u8 0, .int .u8 0, .int .u8 0, .int .u8 0, .int .u8 0, .int .u8 0, .int .u8 0, .int .u8 0, .int .u8 0, .int .u8 0, .int .u8 0, .int .u8 0, .int .u8 0, .int .u8 0, .int .u8 0, .int .u8 0, .bool false, .int .u8 0, .int .u8 0, .int .u8 0, .int .u8 0, .int .u8 0, .int .u8 0, .int .u8 0, .int .u8 0, .int .u8 0, .int .u8 0, .int .u8 0, .int .u8 0, .int .u8 0, .int .u8 0, .int .u8 0, .int .u8 0, .int .u16 0, .int .u16 0] 42)).trans (hB _ (Nat.le_refl _))
  replace K := Lib.hid (K.out.trans (hy.mono K.out.size))
  have NK := Lib.hid hA
  clear hA hF hB hy
  have L2 : (loadVar 25 ⟨V1.heap.size, 1, none⟩).run Try.prog V2 = .ok (.agg S) V2 := by have h := run_part_load (P := Try.prog) 25 1 S.toList _ NK.out kp1.out Try.underlying25 rfl IS.out; rwa [Array.toArray_toList] at h
  replace L2 := Lib.hid L2
  have L3 : (loadVar 25 ⟨V1.heap.size, 18, none⟩).run Try.prog V2 = .ok (.agg D) V2 := by have h := run_part_load (P := Try.prog) 25 18 D.toList _ NK.out kp2.out Try.underlying25 rfl ID.out; rwa [Array.toArray_toList] at h
  replace L3 := Lib.hid L3
  go_wp2_with (first | ((with_reducible refine wpList_load_want (op := ⟨some 17, .load 25 (.tmp 16), _, _, _, _⟩) ?wg2 25 (.tmp 16) ?wo2 ⟨V1.heap.size, 1, none⟩ ?wx2 (.agg S) L2.out ?_); (case wg2 => rfl); (case wo2 => rfl); (case wx2 => rfl)) | ((with_reducible refine wpList_load_want (op := ⟨some 19, .load 25 (.tmp 18), _, _, _, _⟩) ?wg3 25 (.tmp 18) ?wo3 ⟨V1.heap.size, 18, none⟩ ?wx3 (.agg D) L3.out ?_); (case wg3 => rfl); (case wo3 => rfl); (case wx3 => rfl)))
  clear L2 L3
  refine (CM.out _).mono ?_
  rintro e V3 ⟨x, rfl, ox, hy⟩
  replace K := Lib.hid (K.out.trans (hy.mono K.out.size))
  replace NK := Lib.hid (NK.out.below hy NK.out.lt)
  have R := Lib.hid (Rd.own ox)
  obtain ⟨gx, cx, rfl, hcx, hcxm, -, -⟩ := own_at ox (by omega)
  clear ox
  clear hy
  have L := Lib.hid (Below.refl V3.heap.size V3)
  have hal := (Below.refl V3.heap.size V3).alloc (Nat.le_refl _) (.cells #[] 5)
  have O := Lib.hid (own_low (b1 := V3.heap.size) L.out.size (own_none V3 5))
  replace L := Lib.hid (L.out.trans (hal.mono L.out.size))
  clear hal
  go_wp2_with ((at_builtin; refine wpList_app rfl (.tmp 23) (.tmp 24) rfl V3.heap.size _ (0) [] rfl O.out (some ⟨gx, 0, none⟩) (40) (cx) (mk6 s5 d5 6 20) rfl (R.out.below L.out) (by intro e; cases e) ?ap4b ?ap4c ?ap4d))
  case ap4b => omega
  case ap4c => exact L.out.size
  intro vx V4 oz gz
  replace L := Lib.hid (L.out.grown gz L.out.size (fun k e => by first | exact (O.out.lt k e).1 | (cases e; first | exact Nat.le_refl _ | omega)))
  have oz : V4.ownsRow V3.heap.size 5 1 vx (40) (nus .u8 (mk6 s5 d5 6 20)) := by first | exact oz | simpa using oz
  replace O := Lib.hid oz
  obtain ⟨g1, cq1, rfl, hcq1, hcq1m, hg1, hg1u⟩ := own_at O.out (by omega)
  clear oz gz
  go_wp2_with (((with_reducible refine wpList_zeros ?zg5 (.tmp 25) 20 ?zo5 V3.heap.size g1 (40) cq1 _ ?zs5 O.out ?za5 ?zb5 ?zc5 ?_); (case zg5 => rfl); (case zo5 => rfl); (case zs5 => rfl); (case za5 => omega); (case zb5 => omega); (case zc5 => exact L.out.size)))
  intro vx V5 oz gz
  replace L := Lib.hid (L.out.grown gz L.out.size (fun k e => by first | exact (O.out.lt k e).1 | (cases e; first | exact Nat.le_refl _ | omega)))
  have oz : V5.ownsRow V3.heap.size 5 1 vx (60) (nus .u8 (bB)) := by first | exact oz | simpa using oz
  replace O := Lib.hid oz
  obtain ⟨gb, cb, rfl, hcb, hcbm, hgb, hgbu⟩ := own_at O.out (by omega)
  clear oz gz
  have hy := L.out
  replace K := Lib.hid (K.out.trans (hy.mono K.out.size))
  replace NK := Lib.hid (NK.out.below hy NK.out.lt)
  clear hy L
  replace O := Lib.hid (Rd.own O.out)
  clear R
  have F := Lib.hid (O.out.front 50 (by rw [BL.out]; omega))
  go_wp2_with fail
  refine (CR.out _ _ O.out).mono ?_
  rintro e V6 ⟨rfl, hy⟩
  replace K := Lib.hid (K.out.trans (hy.mono K.out.size))
  replace NK := Lib.hid (NK.out.below hy NK.out.lt)
  replace O := Lib.hid (O.out.below hy)
  replace F := Lib.hid (F.out.below hy)
  clear hy
  go_wp2_with (((with_reducible refine wpList_blk_store (op := ⟨none, .store 29 (.tmp 5) (.tmp 30), _, _, _, _⟩) ?sg6 29 (.tmp 5) (.tmp 30) ?so6 (V6.heap.size) hb1 ?sx6 ?sy6 (Blk.new V6 29 #[Value.int .i64 0, .int .u8 0, .bool false, .int .u8 0, .int .u8 0, .int .u8 0, .int .u8 0, .int .u8 0, .int .u8 0, .int .u8 0, .int .u8 0, .int .u8 0, .int .u8 0, .int .u8 0, .int .u8 0, .int .u8 0, .int .u8 0, .int .u8 0, .int .u8 0, .bool false, .int .u8 0, .int .u8 0, .int .u8 0, .int .u8 0, .int .u8 0, .int .u8 0, .int .u8 0, .int .u8 0, .int .u8 0, .int .u8 0, .int .u8 0, .int .u8 0, .int .u8 0, .int .u8 0, .int .u8 0, .int .u8 0]) Yh.out Zh.out Ah.out ?_); (case sg6 => rfl); (case so6 => rfl); (case sx6 => rfl); (case sy6 => rfl)))
  have qNKN5 : V1.heap.size < V6.heap.size := NK.out.lt
  intro V7 hA hF hB
  have hy := ((Below.refl V6.heap.size V6).alloc (Nat.le_refl _) (.cells #[Value.int .i64 0, .int .u8 0, .bool false, .int .u8 0, .int .u8 0, .int .u8 0, .int .u8 0, .int .u8 0, .int .u8 0, .int .u8 0, .int .u8 0, .int .u8 0, .int .u8 0, .int .u8 0, .int .u8 0, .int .u8 0, .int .u8 0, .int .u8 0, .int .u8 0, .bool false, .int .u8 0, .int .u8 0, .int .u8 0, .int .u8 0, .int .u8 0, .int .u8 0, .int .u8 0, .int .u8 0, .int .u8 0, .int .u8 0, .int .u8 0, .int .u8 0, .int .u8 0, .int .u8 0, .int .u8 0, .int .u8 0] 29)).trans (hB _ (Nat.le_refl _))
  replace K := Lib.hid (K.out.trans (hy.mono K.out.size))
  replace NK := Lib.hid (NK.out.below hy NK.out.lt)
  replace O := Lib.hid (O.out.below hy)
  replace F := Lib.hid (F.out.below hy)
  have N5 := Lib.hid hA
  clear hA hF hB hy
  go_wp2_with fail
  refine (CT.out _ _ F.out).mono ?_
  rintro e V8 ⟨rfl, hy⟩
  replace K := Lib.hid (K.out.trans (hy.mono K.out.size))
  replace NK := Lib.hid (NK.out.below hy NK.out.lt)
  replace O := Lib.hid (O.out.below hy)
  replace F := Lib.hid (F.out.below hy)
  replace N5 := Lib.hid (N5.out.below hy N5.out.lt)
  clear hy
  go_wp2_with (((with_reducible refine wpList_blk_store (op := ⟨none, .store 29 (.tmp 7) (.tmp 36), _, _, _, _⟩) ?sg7 29 (.tmp 7) (.tmp 36) ?so7 (V8.heap.size) s0 ?sx7 ?sy7 (Blk.new V8 29 #[Value.int .i64 0, .int .u8 0, .bool false, .int .u8 0, .int .u8 0, .int .u8 0, .int .u8 0, .int .u8 0, .int .u8 0, .int .u8 0, .int .u8 0, .int .u8 0, .int .u8 0, .int .u8 0, .int .u8 0, .int .u8 0, .int .u8 0, .int .u8 0, .int .u8 0, .bool false, .int .u8 0, .int .u8 0, .int .u8 0, .int .u8 0, .int .u8 0, .int .u8 0, .int .u8 0, .int .u8 0, .int .u8 0, .int .u8 0, .int .u8 0, .int .u8 0, .int .u8 0, .int .u8 0, .int .u8 0, .int .u8 0]) Y0.out Z0.out A0.out ?_); (case sg7 => rfl); (case so7 => rfl); (case sx7 => rfl); (case sy7 => rfl)))
  have qNKN7 : V1.heap.size < V8.heap.size := NK.out.lt
  have qN5N7 : V6.heap.size < V8.heap.size := N5.out.lt
  intro V9 hA hF hB
  have hy := ((Below.refl V8.heap.size V8).alloc (Nat.le_refl _) (.cells #[Value.int .i64 0, .int .u8 0, .bool false, .int .u8 0, .int .u8 0, .int .u8 0, .int .u8 0, .int .u8 0, .int .u8 0, .int .u8 0, .int .u8 0, .int .u8 0, .int .u8 0, .int .u8 0, .int .u8 0, .int .u8 0, .int .u8 0, .int .u8 0, .int .u8 0, .bool false, .int .u8 0, .int .u8 0, .int .u8 0, .int .u8 0, .int .u8 0, .int .u8 0, .int .u8 0, .int .u8 0, .int .u8 0, .int .u8 0, .int .u8 0, .int .u8 0, .int .u8 0, .int .u8 0, .int .u8 0, .int .u8 0] 29)).trans (hB _ (Nat.le_refl _))
  replace K := Lib.hid (K.out.trans (hy.mono K.out.size))
  replace NK := Lib.hid (NK.out.below hy NK.out.lt)
  replace O := Lib.hid (O.out.below hy)
  replace F := Lib.hid (F.out.below hy)
  replace N5 := Lib.hid (N5.out.below hy N5.out.lt)
  have N7 := Lib.hid hA
  clear hA hF hB hy
  go_wp2_with fail
  refine (CP.out _).mono ?_
  rintro e V10 ⟨rfl, hy⟩
  replace K := Lib.hid (K.out.trans (hy.mono K.out.size))
  replace NK := Lib.hid (NK.out.below hy NK.out.lt)
  replace O := Lib.hid (O.out.below hy)
  replace F := Lib.hid (F.out.below hy)
  replace N5 := Lib.hid (N5.out.below hy N5.out.lt)
  replace N7 := Lib.hid (N7.out.below hy N7.out.lt)
  clear hy
  go_wp2_with (((with_reducible refine wpList_field_want (op := ⟨some 40, .field 45 (.tmp 39) 0, _, _, _, _⟩) ?wg8 45 (.tmp 39) 0 ?wo8 (.agg dc) (.agg E) ?wx8 (FD.out _) ?_); (case wg8 => rfl); (case wo8 => rfl); (case wx8 => rfl)))
  refine (CD.out _ _ O.out).mono ?_
  rintro e V11 ⟨d, rfl, od, hy⟩
  replace K := Lib.hid (K.out.trans (hy.mono K.out.size))
  replace NK := Lib.hid (NK.out.below hy NK.out.lt)
  replace O := Lib.hid (O.out.below hy)
  replace F := Lib.hid (F.out.below hy)
  replace N5 := Lib.hid (N5.out.below hy N5.out.lt)
  replace N7 := Lib.hid (N7.out.below hy N7.out.lt)
  have P := Lib.hid (Rd.own od)
  obtain ⟨gd, cd, rfl, -, -, -, -⟩ := own_at od (by omega)
  clear od
  clear hy
  go_wp2_with fail
  refine (CU.out _ _ P.out).mono ?_
  rintro e V12 ⟨rfl, hy⟩
  replace K := Lib.hid (K.out.trans (hy.mono K.out.size))
  replace NK := Lib.hid (NK.out.below hy NK.out.lt)
  replace O := Lib.hid (O.out.below hy)
  replace F := Lib.hid (F.out.below hy)
  replace N5 := Lib.hid (N5.out.below hy N5.out.lt)
  replace N7 := Lib.hid (N7.out.below hy N7.out.lt)
  replace P := Lib.hid (P.out.below hy)
  clear hy
  go_wp2_with (((with_reducible refine wpList_blk_store (op := ⟨none, .store 29 (.tmp 10) (.tmp 45), _, _, _, _⟩) ?sg9 29 (.tmp 10) (.tmp 45) ?so9 (V12.heap.size) hc1 ?sx9 ?sy9 (Blk.new V12 29 #[Value.int .i64 0, .int .u8 0, .bool false, .int .u8 0, .int .u8 0, .int .u8 0, .int .u8 0, .int .u8 0, .int .u8 0, .int .u8 0, .int .u8 0, .int .u8 0, .int .u8 0, .int .u8 0, .int .u8 0, .int .u8 0, .int .u8 0, .int .u8 0, .int .u8 0, .bool false, .int .u8 0, .int .u8 0, .int .u8 0, .int .u8 0, .int .u8 0, .int .u8 0, .int .u8 0, .int .u8 0, .int .u8 0, .int .u8 0, .int .u8 0, .int .u8 0, .int .u8 0, .int .u8 0, .int .u8 0, .int .u8 0]) Yc.out Zc.out Ac.out ?_); (case sg9 => rfl); (case so9 => rfl); (case sx9 => rfl); (case sy9 => rfl)))
  have qNKN10 : V1.heap.size < V12.heap.size := NK.out.lt
  have qN5N10 : V6.heap.size < V12.heap.size := N5.out.lt
  have qN7N10 : V8.heap.size < V12.heap.size := N7.out.lt
  intro V13 hA hF hB
  have hy := ((Below.refl V12.heap.size V12).alloc (Nat.le_refl _) (.cells #[Value.int .i64 0, .int .u8 0, .bool false, .int .u8 0, .int .u8 0, .int .u8 0, .int .u8 0, .int .u8 0, .int .u8 0, .int .u8 0, .int .u8 0, .int .u8 0, .int .u8 0, .int .u8 0, .int .u8 0, .int .u8 0, .int .u8 0, .int .u8 0, .int .u8 0, .bool false, .int .u8 0, .int .u8 0, .int .u8 0, .int .u8 0, .int .u8 0, .int .u8 0, .int .u8 0, .int .u8 0, .int .u8 0, .int .u8 0, .int .u8 0, .int .u8 0, .int .u8 0, .int .u8 0, .int .u8 0, .int .u8 0] 29)).trans (hB _ (Nat.le_refl _))
  replace K := Lib.hid (K.out.trans (hy.mono K.out.size))
  replace NK := Lib.hid (NK.out.below hy NK.out.lt)
  replace O := Lib.hid (O.out.below hy)
  replace F := Lib.hid (F.out.below hy)
  replace N5 := Lib.hid (N5.out.below hy N5.out.lt)
  replace N7 := Lib.hid (N7.out.below hy N7.out.lt)
  replace P := Lib.hid (P.out.below hy)
  have N10 := Lib.hid hA
  clear hA hF hB hy
  have L10 : (loadVar 25 ⟨V1.heap.size, 1, none⟩).run Try.prog V13 = .ok (.agg S) V13 := by have h := run_part_load (P := Try.prog) 25 1 S.toList _ NK.out kp1.out Try.underlying25 rfl IS.out; rwa [Array.toArray_toList] at h
  replace L10 := Lib.hid L10
  go_wp2_with (((with_reducible refine wpList_load_want (op := ⟨some 49, .load 25 (.tmp 48), _, _, _, _⟩) ?wg10 25 (.tmp 48) ?wo10 ⟨V1.heap.size, 1, none⟩ ?wx10 (.agg S) L10.out ?_); (case wg10 => rfl); (case wo10 => rfl); (case wx10 => rfl)))
  clear L10
  refine (CN.out _).mono ?_
  rintro e V14 ⟨rfl, hy⟩
  replace K := Lib.hid (K.out.trans (hy.mono K.out.size))
  replace NK := Lib.hid (NK.out.below hy NK.out.lt)
  replace O := Lib.hid (O.out.below hy)
  replace F := Lib.hid (F.out.below hy)
  replace N5 := Lib.hid (N5.out.below hy N5.out.lt)
  replace N7 := Lib.hid (N7.out.below hy N7.out.lt)
  replace P := Lib.hid (P.out.below hy)
  replace N10 := Lib.hid (N10.out.below hy N10.out.lt)
  clear hy
  go_wp2_with fail
  refine wp_region_held (S := (fun w' : World => Below (V14.heap.size) V14 w')) (by kernel_rfl) ?_
  change wpAnyH _ _ _ _ _ _ _ _ V14.drew
  have hy : Below V14.heap.size V14 V14.drew := (Below.refl _ _).drew
  have hE0 : Below (V14.heap.size) V14 V14.drew := (Below.refl _ _).drew
  clear hy
  generalize V14.drew = Y9x0 at hE0  ⊢
  have E0 := Lib.hid hE0
  clear hE0
  refine wpAnyH_take (i := 0) (oi := { dst := some 54, op := Op.move (Operand.tmp 3), type := 4, pos := "law.go:21", after := #[], guard := none }) (v := ?_) rfl (by kernel_rfl) (by kernel_rfl) (by kernel_rfl) (fun _ _ _ h => h) (Or.inl ⟨by rfl, ?_⟩) E0.out ?_
  rotate_left
  · (intro w1 hS; go_simp; try with_reducible rfl)
  simp only [Act.put, List.setIfInBounds_toArray, List.set_cons_zero, List.set_cons_succ]
  refine wpAnyH_take (i := 1) (oi := { dst := some 55, op := Op.move (Operand.tmp 54), type := 4, pos := "law.go:21", after := #[{ on := 0, ground := Ground.data }], guard := none }) (v := ?_) rfl (by kernel_rfl) (by kernel_rfl) (by kernel_rfl) (fun _ _ _ h => h) (Or.inl ⟨by rfl, ?_⟩) E0.out ?_
  rotate_left
  · (intro w1 hS; go_simp; try with_reducible rfl)
  simp only [Act.put, List.setIfInBounds_toArray, List.set_cons_zero, List.set_cons_succ]
  refine wpAnyH_take (i := 2) (oi := { dst := some 56, op := Op.move (Operand.tmp 2), type := 22, pos := "law.go:21", after := #[{ on := 1, ground := Ground.guard }], guard := some (1, true) }) (v := ?_) rfl (by kernel_rfl) (by kernel_rfl) (by kernel_rfl) (fun _ _ _ h => h) (Or.inl ⟨by rfl, ?_⟩) E0.out ?_
  rotate_left
  · (intro w1 hS; go_simp; try with_reducible rfl)
  simp only [Act.put, List.setIfInBounds_toArray, List.set_cons_zero, List.set_cons_succ]
  refine wpAnyH_take (i := 3) (oi := { dst := some 57, op := Op.call { callee := Callee.builtin Builtin.len, args := #[Operand.tmp 56], argTypes := #[22] }, type := 3, pos := "law.go:21", after := #[{ on := 2, ground := Ground.data }, { on := 1, ground := Ground.guard }], guard := some (1, true) }) (v := ?_) rfl (by kernel_rfl) (by kernel_rfl) (by kernel_rfl) (fun _ _ _ h => h) (Or.inl ⟨by rfl, ?_⟩) E0.out ?_
  rotate_left
  · (intro w1 hS; go_simp; try with_reducible rfl)
  simp only [Act.put, List.setIfInBounds_toArray, List.set_cons_zero, List.set_cons_succ]
  refine wpAnyH_take (i := 4) (oi := { dst := some 58, op := Op.binOp BinOp.eql 3 (Operand.tmp 57) (Operand.const (Value.int IntKind.i64 40)) 3, type := 4, pos := "law.go:21", after := #[{ on := 3, ground := Ground.data }, { on := 1, ground := Ground.guard }], guard := some (1, true) }) (v := ?_) rfl (by kernel_rfl) (by kernel_rfl) (by kernel_rfl) (fun _ _ _ h => h) (Or.inl ⟨by rfl, ?_⟩) E0.out ?_
  rotate_left
  · (intro w1 hS; go_simp; try with_reducible rfl)
  simp only [Act.put, List.setIfInBounds_toArray, List.set_cons_zero, List.set_cons_succ]
  refine wpAnyH_take (i := 5) (oi := { dst := some 59, op := Op.pick (Operand.tmp 55) (Operand.tmp 58) (Operand.const (Value.bool false)), type := 4, pos := "law.go:21", after := #[{ on := 1, ground := Ground.data }, { on := 4, ground := Ground.data }], guard := none }) (v := ?_) rfl (by kernel_rfl) (by kernel_rfl) (by kernel_rfl) (fun _ _ _ h => h) (Or.inl ⟨by rfl, ?_⟩) E0.out ?_
  rotate_left
  · (intro w1 hS; go_simp; try with_reducible rfl)
  simp only [Act.put, List.setIfInBounds_toArray, List.set_cons_zero, List.set_cons_succ]
  refine wpAnyH_take (i := 6) (oi := { dst := some 60, op := Op.move (Operand.tmp 59), type := 4, pos := "law.go:21", after := #[{ on := 5, ground := Ground.data }, { on := 1, ground := Ground.chain }], guard := none }) (v := ?_) rfl (by kernel_rfl) (by kernel_rfl) (by kernel_rfl) (fun _ _ _ h => h) (Or.inl ⟨by rfl, ?_⟩) E0.out ?_
  rotate_left
  · (intro w1 hS; go_simp; try with_reducible rfl)
  simp only [Act.put, List.setIfInBounds_toArray, List.set_cons_zero, List.set_cons_succ]
  refine wpAnyH_take (i := 7) (oi := { dst := some 61, op := Op.move (Operand.tmp 6), type := 3, pos := "law.go:21", after := #[{ on := 6, ground := Ground.guard }], guard := some (6, true) }) (v := ?_) rfl (by kernel_rfl) (by kernel_rfl) (by kernel_rfl) (fun _ _ _ h => h) (Or.inl ⟨by rfl, ?_⟩) E0.out ?_
  rotate_left
  · (intro w1 hS; go_simp; try with_reducible rfl)
  simp only [Act.put, List.setIfInBounds_toArray, List.set_cons_zero, List.set_cons_succ]
  refine wpAnyH_take (i := 8) (oi := { dst := some 62, op := Op.binOp BinOp.eql 3 (Operand.tmp 61) (Operand.const (Value.int IntKind.i64 0)) 3, type := 4, pos := "law.go:21", after := #[{ on := 7, ground := Ground.data }, { on := 6, ground := Ground.guard }], guard := some (6, true) }) (v := ?_) rfl (by kernel_rfl) (by kernel_rfl) (by kernel_rfl) (fun _ _ _ h => h) (Or.inl ⟨by rfl, ?_⟩) E0.out ?_
  rotate_left
  · (intro w1 hS; go_simp; try with_reducible rfl)
  simp only [Act.put, List.setIfInBounds_toArray, List.set_cons_zero, List.set_cons_succ]
  refine wpAnyH_take (i := 9) (oi := { dst := some 63, op := Op.pick (Operand.tmp 60) (Operand.tmp 62) (Operand.const (Value.bool false)), type := 4, pos := "law.go:21", after := #[{ on := 6, ground := Ground.data }, { on := 8, ground := Ground.data }], guard := none }) (v := ?_) rfl (by kernel_rfl) (by kernel_rfl) (by kernel_rfl) (fun _ _ _ h => h) (Or.inl ⟨by rfl, ?_⟩) E0.out ?_
  rotate_left
  · (intro w1 hS; go_simp; try with_reducible rfl)
  simp only [Act.put, List.setIfInBounds_toArray, List.set_cons_zero, List.set_cons_succ]
  refine wpAnyH_take (i := 10) (oi := { dst := some 64, op := Op.move (Operand.tmp 63), type := 4, pos := "law.go:21", after := #[{ on := 9, ground := Ground.data }, { on := 6, ground := Ground.chain }], guard := none }) (v := ?_) rfl (by kernel_rfl) (by kernel_rfl) (by kernel_rfl) (fun _ _ _ h => h) (Or.inl ⟨by rfl, ?_⟩) E0.out ?_
  rotate_left
  · (intro w1 hS; go_simp; try with_reducible rfl)
  simp only [Act.put, List.setIfInBounds_toArray, List.set_cons_zero, List.set_cons_succ]
  refine wpAnyH_take (i := 11) (oi := { dst := some 65, op := Op.fieldAddr 29 (Operand.tmp 5) 0, type := 0, pos := "law.go:21", after := #[{ on := 10, ground := Ground.guard }], guard := some (10, true) }) (v := ?_) rfl (by kernel_rfl) (by kernel_rfl) (by kernel_rfl) (fun _ _ _ h => h) (Or.inl ⟨by rfl, ?_⟩) E0.out ?_
  rotate_left
  · (intro w1 hS; go_simp; try with_reducible rfl)
  simp only [Act.put, List.setIfInBounds_toArray, List.set_cons_zero, List.set_cons_succ]
  refine wpAnyH_take (i := 12) (oi := { dst := some 66, op := Op.load 3 (Operand.tmp 65), type := 3, pos := "law.go:21", after := #[{ on := 11, ground := Ground.data }, { on := 10, ground := Ground.guard }], guard := some (10, true) }) (v := ?_) rfl (by kernel_rfl) (by kernel_rfl) (by kernel_rfl) (fun _ _ _ h => h) (Or.inl ⟨by rfl, ?_⟩) E0.out ?_
  rotate_left
  · (intro w1 hS; have hW := hS; have q := ((N5.out.below hW N5.out.lt).cell 0).trans hg0.out; clear hW hS; go_simp; try with_reducible rfl)
  simp only [Act.put, List.setIfInBounds_toArray, List.set_cons_zero, List.set_cons_succ]
  refine wpAnyH_take (i := 13) (oi := { dst := some 67, op := Op.binOp BinOp.eql 3 (Operand.tmp 66) (Operand.const (Value.int IntKind.i64 60)) 3, type := 4, pos := "law.go:21", after := #[{ on := 12, ground := Ground.data }, { on := 10, ground := Ground.guard }], guard := some (10, true) }) (v := ?_) rfl (by kernel_rfl) (by kernel_rfl) (by kernel_rfl) (fun _ _ _ h => h) (Or.inl ⟨by rfl, ?_⟩) E0.out ?_
  rotate_left
  · (intro w1 hS; go_simp; try with_reducible rfl)
  simp only [Act.put, List.setIfInBounds_toArray, List.set_cons_zero, List.set_cons_succ]
  refine wpAnyH_take (i := 14) (oi := { dst := some 68, op := Op.pick (Operand.tmp 64) (Operand.tmp 67) (Operand.const (Value.bool false)), type := 4, pos := "law.go:21", after := #[{ on := 10, ground := Ground.data }, { on := 13, ground := Ground.data }], guard := none }) (v := ?_) rfl (by kernel_rfl) (by kernel_rfl) (by kernel_rfl) (fun _ _ _ h => h) (Or.inl ⟨by rfl, ?_⟩) E0.out ?_
  rotate_left
  · (intro w1 hS; go_simp; try with_reducible rfl)
  simp only [Act.put, List.setIfInBounds_toArray, List.set_cons_zero, List.set_cons_succ]
  refine wpAnyH_take (i := 15) (oi := { dst := some 69, op := Op.move (Operand.tmp 68), type := 4, pos := "law.go:21", after := #[{ on := 14, ground := Ground.data }, { on := 10, ground := Ground.chain }], guard := none }) (v := ?_) rfl (by kernel_rfl) (by kernel_rfl) (by kernel_rfl) (fun _ _ _ h => h) (Or.inl ⟨by rfl, ?_⟩) E0.out ?_
  rotate_left
  · (intro w1 hS; go_simp; try with_reducible rfl)
  simp only [Act.put, List.setIfInBounds_toArray, List.set_cons_zero, List.set_cons_succ]
  refine wpAnyH_take (i := 16) (oi := { dst := some 70, op := Op.fieldAddr 29 (Operand.tmp 5) 3, type := 0, pos := "law.go:21", after := #[{ on := 15, ground := Ground.guard }], guard := some (15, true) }) (v := ?_) rfl (by kernel_rfl) (by kernel_rfl) (by kernel_rfl) (fun _ _ _ h => h) (Or.inl ⟨by rfl, ?_⟩) E0.out ?_
  rotate_left
  · (intro w1 hS; go_simp; try with_reducible rfl)
  simp only [Act.put, List.setIfInBounds_toArray, List.set_cons_zero, List.set_cons_succ]
  refine wpAnyH_take (i := 17) (oi := { dst := some 71, op := Op.load 25 (Operand.tmp 70), type := 25, pos := "law.go:21", after := #[{ on := 16, ground := Ground.data }, { on := 15, ground := Ground.guard }], guard := some (15, true) }) (v := .agg D) rfl (by kernel_rfl) (by kernel_rfl) (by kernel_rfl) (fun _ _ _ h => h) (Or.inl ⟨by rfl, ?_⟩) E0.out ?_
  · (intro w1 hS; have hW := hS; exact exec_load 25 (.tmp 70) rfl _ rfl _ (by have h := run_part_load (P := Try.prog) 25 19 D.toList _ (N5.out.below hW N5.out.lt) hp2.out Try.underlying25 rfl ID.out; rwa [Array.toArray_toList] at h))
  simp only [Act.put, List.setIfInBounds_toArray, List.set_cons_zero, List.set_cons_succ]
  refine wpAnyH_take (i := 18) (oi := { dst := some 72, op := Op.fieldAddr 42 (Operand.tmp 1) 2, type := 0, pos := "law.go:21", after := #[{ on := 15, ground := Ground.guard }], guard := some (15, true) }) (v := ?_) rfl (by kernel_rfl) (by kernel_rfl) (by kernel_rfl) (fun _ _ _ h => h) (Or.inl ⟨by rfl, ?_⟩) E0.out ?_
  rotate_left
  · (intro w1 hS; go_simp; try with_reducible rfl)
  simp only [Act.put, List.setIfInBounds_toArray, List.set_cons_zero, List.set_cons_succ]
  refine wpAnyH_take (i := 19) (oi := { dst := some 73, op := Op.load 25 (Operand.tmp 72), type := 25, pos := "law.go:21", after := #[{ on := 18, ground := Ground.data }, { on := 15, ground := Ground.guard }], guard := some (15, true) }) (v := .agg D) rfl (by kernel_rfl) (by kernel_rfl) (by kernel_rfl) (fun _ _ _ h => h) (Or.inl ⟨by rfl, ?_⟩) E0.out ?_
  · (intro w1 hS; have hW := hS; exact exec_load 25 (.tmp 72) rfl _ rfl _ (by have h := run_part_load (P := Try.prog) 25 18 D.toList _ (NK.out.below hW NK.out.lt) kp2.out Try.underlying25 rfl ID.out; rwa [Array.toArray_toList] at h))
  simp only [Act.put, List.setIfInBounds_toArray, List.set_cons_zero, List.set_cons_succ]
  refine wpAnyH_take (i := 20) (oi := { dst := some 74, op := Op.binOp BinOp.eql 25 (Operand.tmp 71) (Operand.tmp 73) 25, type := 4, pos := "law.go:21", after := #[{ on := 17, ground := Ground.data }, { on := 19, ground := Ground.data }, { on := 15, ground := Ground.guard }], guard := some (15, true) }) (v := ?_) rfl (by kernel_rfl) (by kernel_rfl) (by kernel_rfl) (fun _ _ _ h => h) (Or.inl ⟨by rfl, ?_⟩) E0.out ?_
  rotate_left
  · (intro w1 hS; have hW := hS; have q := QD.out; clear hW hS; go_simp; try with_reducible rfl)
  simp only [Act.put, List.setIfInBounds_toArray, List.set_cons_zero, List.set_cons_succ]
  refine wpAnyH_take (i := 21) (oi := { dst := some 75, op := Op.pick (Operand.tmp 69) (Operand.tmp 74) (Operand.const (Value.bool false)), type := 4, pos := "law.go:21", after := #[{ on := 15, ground := Ground.data }, { on := 20, ground := Ground.data }], guard := none }) (v := ?_) rfl (by kernel_rfl) (by kernel_rfl) (by kernel_rfl) (fun _ _ _ h => h) (Or.inl ⟨by rfl, ?_⟩) E0.out ?_
  rotate_left
  · (intro w1 hS; go_simp; try with_reducible rfl)
  simp only [Act.put, List.setIfInBounds_toArray, List.set_cons_zero, List.set_cons_succ]
  refine wpAnyH_take (i := 22) (oi := { dst := some 76, op := Op.move (Operand.tmp 75), type := 4, pos := "law.go:21", after := #[{ on := 21, ground := Ground.data }, { on := 15, ground := Ground.chain }], guard := none }) (v := ?_) rfl (by kernel_rfl) (by kernel_rfl) (by kernel_rfl) (fun _ _ _ h => h) (Or.inl ⟨by rfl, ?_⟩) E0.out ?_
  rotate_left
  · (intro w1 hS; go_simp; try with_reducible rfl)
  simp only [Act.put, List.setIfInBounds_toArray, List.set_cons_zero, List.set_cons_succ]
  refine wpAnyH_take (i := 23) (oi := { dst := some 77, op := Op.move (Operand.tmp 8), type := 3, pos := "law.go:21", after := #[{ on := 22, ground := Ground.guard }], guard := some (22, true) }) (v := ?_) rfl (by kernel_rfl) (by kernel_rfl) (by kernel_rfl) (fun _ _ _ h => h) (Or.inl ⟨by rfl, ?_⟩) E0.out ?_
  rotate_left
  · (intro w1 hS; go_simp; try with_reducible rfl)
  simp only [Act.put, List.setIfInBounds_toArray, List.set_cons_zero, List.set_cons_succ]
  refine wpAnyH_take (i := 24) (oi := { dst := some 78, op := Op.binOp BinOp.eql 3 (Operand.tmp 77) (Operand.const (Value.int IntKind.i64 1)) 3, type := 4, pos := "law.go:21", after := #[{ on := 23, ground := Ground.data }, { on := 22, ground := Ground.guard }], guard := some (22, true) }) (v := ?_) rfl (by kernel_rfl) (by kernel_rfl) (by kernel_rfl) (fun _ _ _ h => h) (Or.inl ⟨by rfl, ?_⟩) E0.out ?_
  rotate_left
  · (intro w1 hS; go_simp; try with_reducible rfl)
  simp only [Act.put, List.setIfInBounds_toArray, List.set_cons_zero, List.set_cons_succ]
  refine wpAnyH_take (i := 25) (oi := { dst := some 79, op := Op.pick (Operand.tmp 76) (Operand.tmp 78) (Operand.const (Value.bool false)), type := 4, pos := "law.go:21", after := #[{ on := 22, ground := Ground.data }, { on := 24, ground := Ground.data }], guard := none }) (v := ?_) rfl (by kernel_rfl) (by kernel_rfl) (by kernel_rfl) (fun _ _ _ h => h) (Or.inl ⟨by rfl, ?_⟩) E0.out ?_
  rotate_left
  · (intro w1 hS; go_simp; try with_reducible rfl)
  simp only [Act.put, List.setIfInBounds_toArray, List.set_cons_zero, List.set_cons_succ]
  refine wpAnyH_take (i := 26) (oi := { dst := some 80, op := Op.move (Operand.tmp 79), type := 4, pos := "law.go:21", after := #[{ on := 25, ground := Ground.data }, { on := 22, ground := Ground.chain }], guard := none }) (v := ?_) rfl (by kernel_rfl) (by kernel_rfl) (by kernel_rfl) (fun _ _ _ h => h) (Or.inl ⟨by rfl, ?_⟩) E0.out ?_
  rotate_left
  · (intro w1 hS; go_simp; try with_reducible rfl)
  simp only [Act.put, List.setIfInBounds_toArray, List.set_cons_zero, List.set_cons_succ]
  refine wpAnyH_take (i := 27) (oi := { dst := some 81, op := Op.move (Operand.tmp 11), type := 3, pos := "law.go:21", after := #[{ on := 26, ground := Ground.guard }], guard := some (26, true) }) (v := ?_) rfl (by kernel_rfl) (by kernel_rfl) (by kernel_rfl) (fun _ _ _ h => h) (Or.inl ⟨by rfl, ?_⟩) E0.out ?_
  rotate_left
  · (intro w1 hS; go_simp; try with_reducible rfl)
  simp only [Act.put, List.setIfInBounds_toArray, List.set_cons_zero, List.set_cons_succ]
  refine wpAnyH_take (i := 28) (oi := { dst := some 82, op := Op.binOp BinOp.eql 3 (Operand.tmp 81) (Operand.const (Value.int IntKind.i64 0)) 3, type := 4, pos := "law.go:21", after := #[{ on := 27, ground := Ground.data }, { on := 26, ground := Ground.guard }], guard := some (26, true) }) (v := ?_) rfl (by kernel_rfl) (by kernel_rfl) (by kernel_rfl) (fun _ _ _ h => h) (Or.inl ⟨by rfl, ?_⟩) E0.out ?_
  rotate_left
  · (intro w1 hS; go_simp; try with_reducible rfl)
  simp only [Act.put, List.setIfInBounds_toArray, List.set_cons_zero, List.set_cons_succ]
  refine wpAnyH_take (i := 29) (oi := { dst := some 83, op := Op.pick (Operand.tmp 80) (Operand.tmp 82) (Operand.const (Value.bool false)), type := 4, pos := "law.go:21", after := #[{ on := 26, ground := Ground.data }, { on := 28, ground := Ground.data }], guard := none }) (v := ?_) rfl (by kernel_rfl) (by kernel_rfl) (by kernel_rfl) (fun _ _ _ h => h) (Or.inl ⟨by rfl, ?_⟩) E0.out ?_
  rotate_left
  · (intro w1 hS; go_simp; try with_reducible rfl)
  simp only [Act.put, List.setIfInBounds_toArray, List.set_cons_zero, List.set_cons_succ]
  refine wpAnyH_take (i := 30) (oi := { dst := some 84, op := Op.move (Operand.tmp 83), type := 4, pos := "law.go:21", after := #[{ on := 29, ground := Ground.data }, { on := 26, ground := Ground.chain }], guard := none }) (v := ?_) rfl (by kernel_rfl) (by kernel_rfl) (by kernel_rfl) (fun _ _ _ h => h) (Or.inl ⟨by rfl, ?_⟩) E0.out ?_
  rotate_left
  · (intro w1 hS; go_simp; try with_reducible rfl)
  simp only [Act.put, List.setIfInBounds_toArray, List.set_cons_zero, List.set_cons_succ]
  refine wpAnyH_take (i := 31) (oi := { dst := some 85, op := Op.fieldAddr 29 (Operand.tmp 10) 3, type := 0, pos := "law.go:21", after := #[{ on := 30, ground := Ground.guard }], guard := some (30, true) }) (v := ?_) rfl (by kernel_rfl) (by kernel_rfl) (by kernel_rfl) (fun _ _ _ h => h) (Or.inl ⟨by rfl, ?_⟩) E0.out ?_
  rotate_left
  · (intro w1 hS; go_simp; try with_reducible rfl)
  simp only [Act.put, List.setIfInBounds_toArray, List.set_cons_zero, List.set_cons_succ]
  refine wpAnyH_take (i := 32) (oi := { dst := some 86, op := Op.load 25 (Operand.tmp 85), type := 25, pos := "law.go:21", after := #[{ on := 31, ground := Ground.data }, { on := 30, ground := Ground.guard }], guard := some (30, true) }) (v := .agg E) rfl (by kernel_rfl) (by kernel_rfl) (by kernel_rfl) (fun _ _ _ h => h) (Or.inl ⟨by rfl, ?_⟩) E0.out ?_
  · (intro w1 hS; have hW := hS; exact exec_load 25 (.tmp 85) rfl _ rfl _ (by have h := run_part_load (P := Try.prog) 25 19 E.toList _ (N10.out.below hW N10.out.lt) hp4.out Try.underlying25 rfl IE.out; rwa [Array.toArray_toList] at h))
  simp only [Act.put, List.setIfInBounds_toArray, List.set_cons_zero, List.set_cons_succ]
  refine wpAnyH_ready (rs := [33]) (by kernel_rfl) (by simp) ?_
  refine AllReadyH.cons (o := { dst := some 87, op := Op.call { callee := Callee.value (Operand.func 16), args := #[Operand.const (Value.int IntKind.i64 1), Operand.const (Value.bool true)], argTypes := #[3, 4] }, type := 45, pos := "law.go:21", after := #[{ on := 30, ground := Ground.chain }, { on := 30, ground := Ground.guard }], guard := some (30, true) }) rfl (fun K hK => ?_) AllReadyH.nil
  go_simp
  refine (CP.out Y9x0).mono ?_
  rintro e Y9x1 ⟨rfl, hy⟩
  have E1 := Lib.hid (E0.out.trans (hy.mono E0.out.size))
  have C1 := Lib.hid E1.out
  clear hy E0
  refine hK.out _ _ C1.out (fun _ => ?_)
  clear hK K
  refine wpAnyH_mono (S' := (fun w' : World => Below Y9x1.heap.size Y9x1 w')) (fun w1 h => C1.out.trans (h.mono C1.out.size)) _ _ _ _ ?_
  clear C1
  try simp only [Act.put, List.setIfInBounds_toArray, List.set_cons_zero, List.set_cons_succ]
  refine wpAnyH_take (i := 34) (oi := { dst := some 88, op := Op.field 45 (Operand.tmp 87) 0, type := 25, pos := "law.go:21", after := #[{ on := 33, ground := Ground.data }, { on := 30, ground := Ground.guard }], guard := some (30, true) }) (v := .agg E) rfl (by kernel_rfl) (by kernel_rfl) (by kernel_rfl) (fun _ _ _ h => h) (Or.inl ⟨by rfl, ?_⟩) (Below.refl _ _) ?_
  · (intro w1 hS; exact exec_field 45 (.tmp 87) 0 rfl (.agg dc) _ rfl (FD.out w1))
  simp only [Act.put, List.setIfInBounds_toArray, List.set_cons_zero, List.set_cons_succ]
  refine wpAnyH_take (i := 35) (oi := { dst := some 89, op := Op.binOp BinOp.eql 25 (Operand.tmp 86) (Operand.tmp 88) 25, type := 4, pos := "law.go:21", after := #[{ on := 32, ground := Ground.data }, { on := 34, ground := Ground.data }, { on := 30, ground := Ground.guard }], guard := some (30, true) }) (v := ?_) rfl (by kernel_rfl) (by kernel_rfl) (by kernel_rfl) (fun _ _ _ h => h) (Or.inl ⟨by rfl, ?_⟩) (Below.refl _ _) ?_
  rotate_left
  · (intro w1 hS; have hW := E1.out.trans (hS.mono E1.out.size); have q := QE.out; clear hW hS; go_simp; try with_reducible rfl)
  simp only [Act.put, List.setIfInBounds_toArray, List.set_cons_zero, List.set_cons_succ]
  refine wpAnyH_take (i := 36) (oi := { dst := some 90, op := Op.pick (Operand.tmp 84) (Operand.tmp 89) (Operand.const (Value.bool false)), type := 4, pos := "law.go:21", after := #[{ on := 30, ground := Ground.data }, { on := 35, ground := Ground.data }], guard := none }) (v := ?_) rfl (by kernel_rfl) (by kernel_rfl) (by kernel_rfl) (fun _ _ _ h => h) (Or.inl ⟨by rfl, ?_⟩) (Below.refl _ _) ?_
  rotate_left
  · (intro w1 hS; go_simp; try with_reducible rfl)
  simp only [Act.put, List.setIfInBounds_toArray, List.set_cons_zero, List.set_cons_succ]
  refine wpAnyH_take (i := 37) (oi := { dst := some 91, op := Op.move (Operand.tmp 90), type := 4, pos := "law.go:21", after := #[{ on := 36, ground := Ground.data }, { on := 33, ground := Ground.chain }], guard := none }) (v := ?_) rfl (by kernel_rfl) (by kernel_rfl) (by kernel_rfl) (fun _ _ _ h => h) (Or.inl ⟨by rfl, ?_⟩) (Below.refl _ _) ?_
  rotate_left
  · (intro w1 hS; go_simp; try with_reducible rfl)
  simp only [Act.put, List.setIfInBounds_toArray, List.set_cons_zero, List.set_cons_succ]
  refine wpAnyH_take (i := 38) (oi := { dst := some 92, op := Op.move (Operand.tmp 13), type := 4, pos := "law.go:21", after := #[{ on := 37, ground := Ground.guard }], guard := some (37, true) }) (v := ?_) rfl (by kernel_rfl) (by kernel_rfl) (by kernel_rfl) (fun _ _ _ h => h) (Or.inl ⟨by rfl, ?_⟩) (Below.refl _ _) ?_
  rotate_left
  · (intro w1 hS; go_simp; try with_reducible rfl)
  simp only [Act.put, List.setIfInBounds_toArray, List.set_cons_zero, List.set_cons_succ]
  refine wpAnyH_take (i := 39) (oi := { dst := some 93, op := Op.unOp UnOp.not 4 (Operand.tmp 92), type := 4, pos := "law.go:21", after := #[{ on := 38, ground := Ground.data }, { on := 37, ground := Ground.guard }], guard := some (37, true) }) (v := ?_) rfl (by kernel_rfl) (by kernel_rfl) (by kernel_rfl) (fun _ _ _ h => h) (Or.inl ⟨by rfl, ?_⟩) (Below.refl _ _) ?_
  rotate_left
  · (intro w1 hS; go_simp; try with_reducible rfl)
  simp only [Act.put, List.setIfInBounds_toArray, List.set_cons_zero, List.set_cons_succ]
  refine wpAnyH_take (i := 40) (oi := { dst := some 94, op := Op.pick (Operand.tmp 91) (Operand.tmp 93) (Operand.const (Value.bool false)), type := 4, pos := "law.go:21", after := #[{ on := 37, ground := Ground.data }, { on := 39, ground := Ground.data }], guard := none }) (v := ?_) rfl (by kernel_rfl) (by kernel_rfl) (by kernel_rfl) (fun _ _ _ h => h) (Or.inl ⟨by rfl, ?_⟩) (Below.refl _ _) ?_
  rotate_left
  · (intro w1 hS; go_simp; try with_reducible rfl)
  simp only [Act.put, List.setIfInBounds_toArray, List.set_cons_zero, List.set_cons_succ]
  refine wpAnyH_take (i := 41) (oi := { dst := some 95, op := Op.move (Operand.tmp 94), type := 4, pos := "law.go:21", after := #[{ on := 40, ground := Ground.data }, { on := 37, ground := Ground.chain }], guard := none }) (v := ?_) rfl (by kernel_rfl) (by kernel_rfl) (by kernel_rfl) (fun _ _ _ h => h) (Or.inl ⟨by rfl, ?_⟩) (Below.refl _ _) ?_
  rotate_left
  · (intro w1 hS; go_simp; try with_reducible rfl)
  simp only [Act.put, List.setIfInBounds_toArray, List.set_cons_zero, List.set_cons_succ]
  refine wpAnyH_take (i := 42) (oi := { dst := some 96, op := Op.move (Operand.tmp 4), type := 22, pos := "law.go:21", after := #[{ on := 41, ground := Ground.guard }], guard := some (41, true) }) (v := ?_) rfl (by kernel_rfl) (by kernel_rfl) (by kernel_rfl) (fun _ _ _ h => h) (Or.inl ⟨by rfl, ?_⟩) (Below.refl _ _) ?_
  rotate_left
  · (intro w1 hS; go_simp; try with_reducible rfl)
  simp only [Act.put, List.setIfInBounds_toArray, List.set_cons_zero, List.set_cons_succ]
  refine wpAnyH_take (i := 43) (oi := { dst := some 97, op := Op.build 25 #[], type := 25, pos := "law.go:21", after := #[{ on := 41, ground := Ground.guard }], guard := some (41, true) }) (v := ?_) rfl (by kernel_rfl) (by kernel_rfl) (by kernel_rfl) (fun _ _ _ h => h) (Or.inl ⟨by rfl, ?_⟩) (Below.refl _ _) ?_
  rotate_left
  · (intro w1 hS; go_simp; try with_reducible rfl)
  simp only [Act.put, List.setIfInBounds_toArray, List.set_cons_zero, List.set_cons_succ]
  refine wpAnyH_ready (rs := [44]) (by kernel_rfl) (by simp) ?_
  refine AllReadyH.cons (o := { dst := some 98, op := Op.call { callee := Callee.value (Operand.func 13), args := #[Operand.tmp 96, Operand.tmp 97], argTypes := #[22, 25] }, type := 22, pos := "law.go:21", after := #[{ on := 42, ground := Ground.data }, { on := 43, ground := Ground.data }, { on := 41, ground := Ground.chain }, { on := 41, ground := Ground.guard }], guard := some (41, true) }) rfl (fun K hK => ?_) AllReadyH.nil
  go_simp
  refine (CX.out Y9x1 _ (O.out.below E1.out)).mono ?_
  rintro e Y9x2 ⟨rfl, hy⟩
  have E2 := Lib.hid (E1.out.trans (hy.mono E1.out.size))
  have C2 := Lib.hid hy
  clear hy E1
  refine hK.out _ _ C2.out (fun _ => ?_)
  clear hK K
  refine wpAnyH_mono (S' := (fun w' : World => Below Y9x2.heap.size Y9x2 w')) (fun w1 h => C2.out.trans (h.mono C2.out.size)) _ _ _ _ ?_
  clear C2
  try simp only [Act.put, List.setIfInBounds_toArray, List.set_cons_zero, List.set_cons_succ]
  refine wpAnyH_take (i := 45) (oi := { dst := some 99, op := Op.call { callee := Callee.builtin Builtin.len, args := #[Operand.tmp 98], argTypes := #[22] }, type := 3, pos := "law.go:21", after := #[{ on := 44, ground := Ground.data }, { on := 41, ground := Ground.guard }], guard := some (41, true) }) (v := ?_) rfl (by kernel_rfl) (by kernel_rfl) (by kernel_rfl) (fun _ _ _ h => h) (Or.inl ⟨by rfl, ?_⟩) (Below.refl _ _) ?_
  rotate_left
  · (intro w1 hS; go_simp; try with_reducible rfl)
  simp only [Act.put, List.setIfInBounds_toArray, List.set_cons_zero, List.set_cons_succ]
  refine wpAnyH_take (i := 46) (oi := { dst := some 100, op := Op.binOp BinOp.eql 3 (Operand.tmp 99) (Operand.const (Value.int IntKind.i64 0)) 3, type := 4, pos := "law.go:21", after := #[{ on := 45, ground := Ground.data }, { on := 41, ground := Ground.guard }], guard := some (41, true) }) (v := ?_) rfl (by kernel_rfl) (by kernel_rfl) (by kernel_rfl) (fun _ _ _ h => h) (Or.inl ⟨by rfl, ?_⟩) (Below.refl _ _) ?_
  rotate_left
  · (intro w1 hS; go_simp; try with_reducible rfl)
  simp only [Act.put, List.setIfInBounds_toArray, List.set_cons_zero, List.set_cons_succ]
  refine wpAnyH_take (i := 47) (oi := { dst := some 101, op := Op.pick (Operand.tmp 95) (Operand.tmp 100) (Operand.const (Value.bool false)), type := 4, pos := "law.go:21", after := #[{ on := 41, ground := Ground.data }, { on := 46, ground := Ground.data }], guard := none }) (v := ?_) rfl (by kernel_rfl) (by kernel_rfl) (by kernel_rfl) (fun _ _ _ h => h) (Or.inl ⟨by rfl, ?_⟩) (Below.refl _ _) ?_
  rotate_left
  · (intro w1 hS; go_simp; try with_reducible rfl)
  simp only [Act.put, List.setIfInBounds_toArray, List.set_cons_zero, List.set_cons_succ]
  refine wpAnyH_take (i := 48) (oi := { dst := some 0, op := Op.assign (Operand.tmp 101), type := 4, pos := "law.go:21", after := #[{ on := 47, ground := Ground.data }, { on := 44, ground := Ground.chain }, { on := 0, ground := Ground.phase }, { on := 1, ground := Ground.phase }, { on := 2, ground := Ground.phase }, { on := 3, ground := Ground.phase }, { on := 4, ground := Ground.phase }, { on := 5, ground := Ground.phase }, { on := 6, ground := Ground.phase }, { on := 7, ground := Ground.phase }, { on := 8, ground := Ground.phase }, { on := 9, ground := Ground.phase }, { on := 10, ground := Ground.phase }, { on := 11, ground := Ground.phase }, { on := 12, ground := Ground.phase }, { on := 13, ground := Ground.phase }, { on := 14, ground := Ground.phase }, { on := 15, ground := Ground.phase }, { on := 16, ground := Ground.phase }, { on := 17, ground := Ground.phase }, { on := 18, ground := Ground.phase }, { on := 19, ground := Ground.phase }, { on := 20, ground := Ground.phase }, { on := 21, ground := Ground.phase }, { on := 22, ground := Ground.phase }, { on := 23, ground := Ground.phase }, { on := 24, ground := Ground.phase }, { on := 25, ground := Ground.phase }, { on := 26, ground := Ground.phase }, { on := 27, ground := Ground.phase }, { on := 28, ground := Ground.phase }, { on := 29, ground := Ground.phase }, { on := 30, ground := Ground.phase }, { on := 31, ground := Ground.phase }, { on := 32, ground := Ground.phase }, { on := 33, ground := Ground.phase }, { on := 34, ground := Ground.phase }, { on := 35, ground := Ground.phase }, { on := 36, ground := Ground.phase }, { on := 37, ground := Ground.phase }, { on := 38, ground := Ground.phase }, { on := 39, ground := Ground.phase }, { on := 40, ground := Ground.phase }, { on := 41, ground := Ground.phase }, { on := 42, ground := Ground.phase }, { on := 43, ground := Ground.phase }, { on := 44, ground := Ground.phase }, { on := 45, ground := Ground.phase }, { on := 46, ground := Ground.phase }, { on := 47, ground := Ground.phase }], guard := none }) (v := ?_) rfl (by kernel_rfl) (by kernel_rfl) (by kernel_rfl) (fun _ _ _ h => h) (Or.inl ⟨by rfl, ?_⟩) (Below.refl _ _) ?_
  rotate_left
  · (intro w1 hS; go_simp; try with_reducible rfl)
  simp only [Act.put, List.setIfInBounds_toArray, List.set_cons_zero]
  refine wpAnyH_done (by kernel_rfl) ?_ _
  have hy := E2.out
  replace K := Lib.hid (K.out.trans (hy.mono K.out.size))
  replace NK := Lib.hid (NK.out.below hy NK.out.lt)
  replace O := Lib.hid (O.out.below hy)
  replace F := Lib.hid (F.out.below hy)
  replace N5 := Lib.hid (N5.out.below hy N5.out.lt)
  replace N7 := Lib.hid (N7.out.below hy N7.out.lt)
  replace P := Lib.hid (P.out.below hy)
  replace N10 := Lib.hid (N10.out.below hy N10.out.lt)
  clear hy E2
  go_wp2
  go_ret
  exact ⟨rfl, K.out⟩
end Go.Proofs.Ytnfanenaighflaa

/- Bytes as a string. Nothing of the program. -/
namespace Go.Proofs.Ytnfanenaighflaa
open Go.RowKit

/-- The string of bytes. -/
def str (zs : List Nat) : ByteArray := ⟨(zs.map UInt8.ofNat).toArray⟩

theorem str_inj (a b : List Nat) (ha : ∀ c ∈ a, c < 256) (hb : ∀ c ∈ b, c < 256) (h : str a = str b) : a = b := by
  have h1 : a.map UInt8.ofNat = b.map UInt8.ofNat := by
    have := congrArg (fun s : ByteArray => s.data.toList) h
    simpa [str] using this
  have h2 : ∀ l : List Nat, (∀ c ∈ l, c < 256) → (l.map UInt8.ofNat).map UInt8.toNat = l := by
    intro l hl
    rw [List.map_map]
    conv => rhs; rw [← List.map_id l]
    apply List.map_congr_left
    intro c hc
    have := hl c hc
    simp only [Function.comp_apply, id_eq, UInt8.toNat_ofNat']
    omega
  rw [← h2 a ha, ← h2 b hb, h1]
theorem str_append (a b : List Nat) : str (a ++ b) = str a ++ str b := by
  apply ByteArray.ext
  simp [str]

theorem strOfNums_nat (zs : List Nat) : strOfNums (zs.map fun n : Nat => (n : Int)) = str zs := by
  unfold strOfNums str
  rw [List.map_map]
  rfl

theorem conv_rd {P : Program} (w : World) (src dst e : TypeId) (hs : P.underlying src = some (.slice e)) (he : P.underlying e = some (.int .u8)) (hd : P.underlying dst = some .string) (v : Value) (zs : List Nat) (h : Rd w v (nus .u8 zs)) :
    (convert src dst v).run P w = .ok (.string (str zs)) w := by
  obtain ⟨a, cap, rfl, _, _, hx⟩ := h
  rw [nus_length] at hx ⊢
  rw [← strOfNums_nat]
  rcases hx with hx | ⟨b, off, rfl, _, hc⟩
  · obtain rfl := (nus_nil _ _).1 hx
    cases a with
    | none => exact run_convert_bytes_nil w src e hs he _ _ dst hd
    | some ad =>
      rw [run_convert_bytes_string w src dst e _ _ _ hs he hd, List.length_nil, run_bytesToString w ad 0 cap [] (by simp [loadCells, go_sem])]
      rfl
  · exact run_convert_bytes_arg w src e hs he b off zs.length cap (zs.map fun n : Nat => (n : Int)) (by simp) (fun i hi => by
      rw [hc i hi, nus_get _ _ _ hi]
      simp [List.getD_eq_getElem?_getD, List.getElem?_eq_getElem hi]) dst hd
end Go.Proofs.Ytnfanenaighflaa

