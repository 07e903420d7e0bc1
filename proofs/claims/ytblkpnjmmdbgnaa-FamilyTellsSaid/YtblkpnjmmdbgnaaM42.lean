/- Texts that the walks of this seat lean on, put together. -/
import Derived.StillTailTactics
import Derived.Deep.CutBlock
import Derived.Deep.DeepCutAuto
import Derived.LoopTactic
import Derived.Handy
import Derived.Test.YtblkpnjmmdbgnaaTk
import Derived.Test.YtblkpnjmmdbgnaaM35
import Derived.Test.YtblkpnjmmdbgnaaM37
import Derived.Test.YtblkpnjmmdbgnaaM40
import Derived.Test.YtblkpnjmmdbgnaaM41
namespace Go.Proofs.Ytblkpnjmmdbgnaa
open Go.RowKit Go.Lib
def rmy : Cf := ⟨4, 256, 16, 65536, 4, 32, 16, 256, 64, 1000, 2, 2, false, false, z16, true, z16, 1⟩
theorem rmy_fit : rmy.Fit := ⟨rfl, rfl, z16_lt, z16_lt, by decide⟩
theorem rmy_ok : okC rmy = true := by kernel_rfl
theorem cf0_no : okC cf0 = false := by kernel_rfl
theorem two_size (a b c d : Value) : (#[a, b] : Array Value).size = (#[c, d] : Array Value).size := rfl
theorem slN_one (c : Cf) (k : Fl) : slN c k 1 = 0 := by
  unfold slN
  split
  · rw [show Int.toNat 1 = 1 from rfl, Nat.mod_one]
  · rfl
theorem built_rmy : Try.prog.built 27 [(0, .int .i64 4), (1, .int .i64 256), (2, .int .i64 16), (3, .int .i64 65536), (4, .int .i64 4), (5, .int .i64 32), (6, .int .i64 16), (7, .int .i64 256), (8, .int .i64 64), (9, .int .i64 1000), (10, .int .i64 2), (11, .int .i64 2), (14, .agg (cellsA true z16)), (15, .int .u32 1)] = some rmy.cs := by kernel_rfl
theorem built_cf0 : Try.prog.built 27 [] = some cf0.cs := by kernel_rfl
theorem zero31 (W : World) : (zeroValue 31).run Try.prog W = .ok (.agg k0.cs) W := by kernel_rfl
set_option maxRecDepth 100000 in
set_option maxHeartbeats 4000000 in
theorem roomy_any (w : World) : Calls Try.prog 31 #[.int .i64 1] w fun e w' => e = .returned (.agg rmy.cs) ∧ Below w.heap.size w w' := by
  have K := Lib.hid (Below.refl w.heap.size w)
  obtain ⟨ZC, hZC⟩ : ∃ Z, Z = cf0.cs := ⟨_, rfl⟩
  have z27 : ∀ W, (zeroValue 27).run Try.prog W = .ok (.agg ZC) W := by rw [hZC]; exact zero27
  have hZS : ZC.size = 48 := by rw [hZC]; exact cf_size _ cf0_fit
  clear hZC
  have CR := Lib.hid (fun W => round_any 1 1073741824 W (by decide) (by decide))
  rw [show (1 : Int) % 1073741824 = 1 from rfl] at CR
  have B24 := Lib.hid built_own6
  have B27 := Lib.hid built_rmy
  have RS := cf_size _ rmy_fit
  have RZ := Lib.hid (cf_ic _ rmy_fit)
  have RA := Lib.hid (cf_all rmy)
  generalize rmy.cs = R at *
  generalize cellsA true z16 = A6 at *
  have RY : Hid (R.size = ZC.size) := by show _ = _; rw [RS, hZS]
  clear RS hZS
  go_enter Try.func31, Try.ntmps31
  have hal := (Below.refl w.heap.size w).alloc (Nat.le_refl _) (.cells ZC 27)
  replace K := Lib.hid (K.out.trans (hal.mono K.out.size))
  have P := Lib.hid (Blk.new w 27 ZC)
  clear hal
  go_wp2_with (((with_reducible refine wpList_built2 (op := ⟨some 3, .build 24 #[(0, Operand.const (Value.bool true))], _, _, _, _⟩) ?wg3 24 #[(0, Operand.const (Value.bool true))] ?wo3 #[(0, .bool true)] ?wv3 A6 ?wf3 ?_); (case wg3 => rfl); (case wo3 => rfl); (case wv3 => kernel_rfl); (case wf3 => exact B24.out)))
  have hzV1 : Hid ((w.alloc (.cells ZC 27)).heap.size = w.heap.size + 1) := by show _ = _; simp only [World.size_alloc]
  generalize (w.alloc (.cells ZC 27)) = V1 at *
  refine (same_below (CR.out V1)).mono ?_
  rintro e V2 ⟨rfl, hy⟩
  replace K := Lib.hid (K.out.trans (hy.mono K.out.size))
  replace P := Lib.hid (P.out.below hy P.out.lt)
  clear hy
  go_wp2_with (first | ((with_reducible refine wpList_built2 (op := ⟨some 7, .build 27 #[(0, Operand.const (Value.int IntKind.i64 4)), (1, Operand.const (Value.int IntKind.i64 256)), (2, Operand.const (Value.int IntKind.i64 16)), (3, Operand.const (Value.int IntKind.i64 65536)), (4, Operand.const (Value.int IntKind.i64 4)), (5, Operand.const (Value.int IntKind.i64 32)), (6, Operand.const (Value.int IntKind.i64 16)), (7, Operand.const (Value.int IntKind.i64 256)), (8, Operand.const (Value.int IntKind.i64 64)), (9, Operand.const (Value.int IntKind.i64 1000)), (10, Operand.const (Value.int IntKind.i64 2)), (11, Operand.const (Value.int IntKind.i64 2)), (14, Operand.tmp 3), (15, Operand.tmp 6)], _, _, _, _⟩) ?wg7 27 #[(0, Operand.const (Value.int IntKind.i64 4)), (1, Operand.const (Value.int IntKind.i64 256)), (2, Operand.const (Value.int IntKind.i64 16)), (3, Operand.const (Value.int IntKind.i64 65536)), (4, Operand.const (Value.int IntKind.i64 4)), (5, Operand.const (Value.int IntKind.i64 32)), (6, Operand.const (Value.int IntKind.i64 16)), (7, Operand.const (Value.int IntKind.i64 256)), (8, Operand.const (Value.int IntKind.i64 64)), (9, Operand.const (Value.int IntKind.i64 1000)), (10, Operand.const (Value.int IntKind.i64 2)), (11, Operand.const (Value.int IntKind.i64 2)), (14, Operand.tmp 3), (15, Operand.tmp 6)] ?wo7 #[(0, .int .i64 4), (1, .int .i64 256), (2, .int .i64 16), (3, .int .i64 65536), (4, .int .i64 4), (5, .int .i64 32), (6, .int .i64 16), (7, .int .i64 256), (8, .int .i64 64), (9, .int .i64 1000), (10, .int .i64 2), (11, .int .i64 2), (14, .agg A6), (15, .int .u32 1)] ?wv7 R ?wf7 ?_); (case wg7 => rfl); (case wo7 => rfl); (case wv7 => kernel_rfl); (case wf7 => exact B27.out)) | ((with_reducible refine wpList_blk_store (op := ⟨none, .store 27 (.tmp 2) (.tmp 7), _, _, _, _⟩) ?sg1 27 (.tmp 2) (.tmp 7) ?so1 (w.heap.size) R ?sx1 ?sy1 P.out RY.out RZ.out RA.out ?_); (case sg1 => rfl); (case so1 => rfl); (case sx1 => rfl); (case sy1 => rfl)))
  intro V3 hA hF hB
  replace K := Lib.hid (K.out.trans (hB _ (by omega)))
  replace P := Lib.hid hA
  clear hA hF hB
  go_wp2
  have hrun := run_blk_load (P := Try.prog) 27 w.heap.size _ P.out Try.underlying27 rfl RZ.out
  exact bodyPost_ret (results_cell 2 27 w.heap.size _ Try.results31 rfl hrun) rfl ⟨rfl, K.out⟩
set_option maxRecDepth 100000 in
set_option maxHeartbeats 4000000 in
theorem awake_any (w : World) : Calls Try.prog 9 #[] w fun e w' => e = .returned (.bool true) ∧ Below w.heap.size w w' := by
  have K := Lib.hid (Below.refl w.heap.size w)
  obtain ⟨ZC, hZC⟩ : ∃ Z, Z = cf0.cs := ⟨_, rfl⟩
  have z27 : ∀ W, (zeroValue 27).run Try.prog W = .ok (.agg ZC) W := by rw [hZC]; exact zero27
  have hZS : ZC.size = 48 := by rw [hZC]; exact cf_size _ cf0_fit
  obtain ⟨ZK, hZK⟩ : ∃ Z, Z = k0.cs := ⟨_, rfl⟩
  have z31 : ∀ W, (zeroValue 31).run Try.prog W = .ok (.agg ZK) W := by rw [hZK]; exact zero31
  have hZKS : ZK.size = 37 := by rw [hZK]; exact Fl.cs_size _ k0_fit
  have CN0 := Lib.hid (fun W => new_no cf0 cf0_fit cf0_no W)
  have B0 := Lib.hid built_cf0
  rw [← hZC] at CN0 B0
  clear hZC hZK
  have CR := Lib.hid roomy_any
  have CK := Lib.hid (fun W => flow_any 5 false false W)
  change Hid (∀ W, Calls Try.prog 23 #[.int .i64 5, .bool false, .bool false] W fun e w' => e = .returned (.agg kA.cs) ∧ Below W.heap.size W w') at CK
  obtain ⟨c, hcr⟩ : ∃ c, c = rmy := ⟨_, rfl⟩
  have hc : c.Fit := by rw [hcr]; exact rmy_fit
  have hok : okC c = true := by rw [hcr]; exact rmy_ok
  have hst : c.st = 4 := by rw [hcr]; rfl
  have hhs : c.hs = 4 := by rw [hcr]; rfl
  rw [← hcr] at CR
  obtain ⟨k, hka⟩ : ∃ k, k = kA := ⟨_, rfl⟩
  have hk : k.Fit := by rw [hka]; exact kA_fit
  have hv : vK k = true := by rw [hka]; exact kA_v
  rw [← hka] at CK
  clear hcr hka
  have CN := Lib.hid (fun W => new_yes c hc hok W)
  have CC := Lib.hid (fun W => check_any c hc W)
  rw [hok, if_pos rfl] at CC
  have CP0 := Lib.hid (fun g W h => place_yes c hc hok k hk hv 0 ⟨by decide, by rw [hst]; decide⟩ g W h)
  have CP4 := Lib.hid (fun g W h => place_high c k hk hv 4 ⟨by decide, by rw [hst]; decide⟩ g W h)
  have CPO := Lib.hid (fun W => rplace_any c hc hok 0 (by decide) k hk W)
  have CB : Hid (∀ g W, Blk W g 73 (famC c) → Calls Try.prog 18 #[.pointer (some ⟨g, 0, none⟩), .agg k.cs] W fun e w' => ∃ a cp, e = .returned (.slice a 4 cp) ∧ Below W.heap.size W w') := by
    show ∀ g W, _
    intro g W h
    refine (bits_yes c hc hok k hk hv g W h).mono ?_
    rintro e w' ⟨x, rfl, hx, hy⟩
    obtain ⟨a, cp, rfl, -, -⟩ := rd_shape hx
    rw [btL_len, hhs]
    exact ⟨a, cp, rfl, hy⟩
  have CD := Lib.hid (fun g W h => digest_yes c hc hok k hk hv g W h)
  have CRD := Lib.hid (fun W => rdigest_yes c hc hok k hk hv W)
  have hs0 : slN c k 1 = 0 := slN_one c k
  have CS := Lib.hid (fun g W h => slot_yes c hc k hk hv g 1 (by decide) (by decide) W h)
  rw [hs0] at CS
  have CDN := Lib.hid (fun W => digest_nil k hk W)
  have CBN := Lib.hid (fun W => bits_nil k hk W)
  rw [show (0 : Int).toNat = 0 from rfl] at CP0
  rw [show ((0 : Nat) : Int) = 0 from rfl] at CPO CS
  have hp0 := plN_lt c k 0 hok
  generalize plN c k 0 = p0 at *
  have EQ : Hid (∀ W, (Op.equalIn Op.maxDepth 41 (.agg #[.int .i64 0, .int .i64 (p0 : Int)]) (.agg #[.int .i64 0, .int .i64 (p0 : Int)])).run Try.prog W = .ok true W) := fun W => eq_place 0 p0 (by decide) hp0 W
  generalize dgN c k = d0 at *
  have e1 : ((p0 : Int) == (p0 : Int)) = true := by simp
  have e2 : ((d0 : Int) == (d0 : Int)) = true := by simp
  have RY : Hid (c.cs.size = ZC.size) := by show _ = _; rw [cf_size _ hc, hZS]
  have RZ := Lib.hid (cf_ic _ hc)
  have RA := Lib.hid (cf_all c)
  have KY : Hid (k.cs.size = ZK.size) := by show _ = _; rw [Fl.cs_size _ hk, hZKS]
  have KZ := Lib.hid (fl_ik k hk)
  have KA := Lib.hid (Fl.cs_all k)
  have PY := Lib.hid (two_size (.int .i64 0) (.int .i64 (p0 : Int)) (.int .i64 0) (.int .i64 0))
  have PZ : Hid ((Try.prog.info? 41).map (·.size) = some (#[.int .i64 0, .int .i64 (p0 : Int)] : Array Value).size) := i41
  have PA : Hid ((#[.int .i64 0, .int .i64 (p0 : Int)] : Array Value).all (·.oneCell') = true) := by show _ = true; simp [Value.oneCell']
  generalize (#[.int .i64 0, .int .i64 (p0 : Int)] : Array Value) = PC at *
  generalize famC c = fc at *
  generalize c.cs = cc at *
  generalize k.cs = kc at *
  clear hc hok hst hhs hk hv hs0 hZS hZKS hp0
  go_enter Try.func9, Try.ntmps9
  go_wp2_with fail
  refine (CR.out w).mono ?_
  rintro e V1 ⟨rfl, hy⟩
  replace K := Lib.hid (K.out.trans (hy.mono K.out.size))
  clear hy
  go_wp2_with (((with_reducible refine wpList_blk_store (op := ⟨none, .store 27 (.tmp 1) (.tmp 12), _, _, _, _⟩) ?sg2 27 (.tmp 1) (.tmp 12) ?so2 (V1.heap.size) cc ?sx2 ?sy2 (Blk.new V1 27 ZC) RY.out RZ.out RA.out ?_); (case sg2 => rfl); (case so2 => rfl); (case sx2 => rfl); (case sy2 => rfl)))
  intro V2 hA hF hB
  have hy := ((Below.refl V1.heap.size V1).alloc (Nat.le_refl _) (.cells ZC 27)).trans (hB _ (Nat.le_refl _))
  replace K := Lib.hid (K.out.trans (hy.mono K.out.size))
  have C := Lib.hid hA
  clear hA hF hB hy
  have L3 : (loadVar 27 ⟨V1.heap.size, 0, none⟩).run Try.prog V2 = .ok (.agg cc) V2 := run_blk_load (P := Try.prog) 27 (V1.heap.size) _ C.out Try.underlying27 rfl RZ.out
  replace L3 := Lib.hid L3
  go_wp2_with (((with_reducible refine wpList_load_want (op := ⟨some 14, .load 27 (.tmp 1), _, _, _, _⟩) ?wg3 27 (.tmp 1) ?wo3 ⟨V1.heap.size, 0, none⟩ ?wx3 (.agg cc) L3.out ?_); (case wg3 => rfl); (case wo3 => rfl); (case wx3 => rfl)))
  clear L3
  refine (CN.out V2).mono ?_
  rintro e V3 ⟨⟨g, rfl, -, hF⟩, hy⟩
  replace K := Lib.hid (K.out.trans (hy.mono K.out.size))
  replace C := Lib.hid (C.out.below hy C.out.lt)
  have F := Lib.hid (hF)
  clear hF
  clear hy
  go_wp2_with (((with_reducible refine wpList_built2 (op := ⟨some 19, .build 27 #[], _, _, _, _⟩) ?wg19 27 #[] ?wo19 #[] ?wv19 ZC ?wf19 ?_); (case wg19 => rfl); (case wo19 => rfl); (case wv19 => kernel_rfl); (case wf19 => exact B0.out)))
  refine (CN0.out V3).mono ?_
  rintro e V4 ⟨rfl, hy⟩
  replace K := Lib.hid (K.out.trans (hy.mono K.out.size))
  replace C := Lib.hid (C.out.below hy C.out.lt)
  replace F := Lib.hid (F.out.below hy F.out.lt)
  clear hy
  go_wp2_with fail
  refine (CK.out V4).mono ?_
  rintro e V5 ⟨rfl, hy⟩
  replace K := Lib.hid (K.out.trans (hy.mono K.out.size))
  replace C := Lib.hid (C.out.below hy C.out.lt)
  replace F := Lib.hid (F.out.below hy F.out.lt)
  clear hy
  go_wp2_with (((with_reducible refine wpList_blk_store (op := ⟨none, .store 31 (.tmp 6) (.tmp 33), _, _, _, _⟩) ?sg4 31 (.tmp 6) (.tmp 33) ?so4 (V5.heap.size) kc ?sx4 ?sy4 (Blk.new V5 31 ZK) KY.out KZ.out KA.out ?_); (case sg4 => rfl); (case so4 => rfl); (case sx4 => rfl); (case sy4 => rfl)))
  have qCN : V1.heap.size < V5.heap.size := C.out.lt
  intro V6 hA hF hB
  have hy := ((Below.refl V5.heap.size V5).alloc (Nat.le_refl _) (.cells ZK 31)).trans (hB _ (Nat.le_refl _))
  replace K := Lib.hid (K.out.trans (hy.mono K.out.size))
  replace C := Lib.hid (C.out.below hy C.out.lt)
  replace F := Lib.hid (F.out.below hy F.out.lt)
  have N := Lib.hid hA
  clear hA hF hB hy
  clear z27 z31
  have L5 : (loadVar 31 ⟨V5.heap.size, 0, none⟩).run Try.prog V6 = .ok (.agg kc) V6 := run_blk_load (P := Try.prog) 31 (V5.heap.size) _ N.out Try.underlying31 rfl KZ.out
  replace L5 := Lib.hid L5
  go_wp2_with (((with_reducible refine wpList_load_want (op := ⟨some 36, .load 31 (.tmp 6), _, _, _, _⟩) ?wg5 31 (.tmp 6) ?wo5 ⟨V5.heap.size, 0, none⟩ ?wx5 (.agg kc) L5.out ?_); (case wg5 => rfl); (case wo5 => rfl); (case wx5 => rfl)))
  clear L5
  refine (CP0.out g V6 F.out).mono ?_
  rintro e V7 ⟨rfl, hy⟩
  replace K := Lib.hid (K.out.trans (hy.mono K.out.size))
  replace C := Lib.hid (C.out.below hy C.out.lt)
  replace F := Lib.hid (F.out.below hy F.out.lt)
  replace N := Lib.hid (N.out.below hy N.out.lt)
  clear hy
  go_wp2_with (((with_reducible refine wpList_blk_store (op := ⟨none, .store 41 (.tmp 7) (.tmp 38), _, _, _, _⟩) ?sg6 41 (.tmp 7) (.tmp 38) ?so6 (V7.heap.size) PC ?sx6 ?sy6 (Blk.new V7 41 #[.int .i64 0, .int .i64 0]) PY.out PZ.out PA.out ?_); (case sg6 => rfl); (case so6 => rfl); (case sx6 => rfl); (case sy6 => rfl)))
  have qCP7 : V1.heap.size < V7.heap.size := C.out.lt
  have qNP7 : V5.heap.size < V7.heap.size := N.out.lt
  intro V8 hA hF hB
  have hy := ((Below.refl V7.heap.size V7).alloc (Nat.le_refl _) (.cells #[.int .i64 0, .int .i64 0] 41)).trans (hB _ (Nat.le_refl _))
  replace K := Lib.hid (K.out.trans (hy.mono K.out.size))
  replace C := Lib.hid (C.out.below hy C.out.lt)
  replace F := Lib.hid (F.out.below hy F.out.lt)
  replace N := Lib.hid (N.out.below hy N.out.lt)
  have P7 := Lib.hid hA
  clear hA hF hB hy
  have L7 : (loadVar 31 ⟨V5.heap.size, 0, none⟩).run Try.prog V8 = .ok (.agg kc) V8 := run_blk_load (P := Try.prog) 31 (V5.heap.size) _ N.out Try.underlying31 rfl KZ.out
  replace L7 := Lib.hid L7
  go_wp2_with (((with_reducible refine wpList_load_want (op := ⟨some 42, .load 31 (.tmp 6), _, _, _, _⟩) ?wg7 31 (.tmp 6) ?wo7 ⟨V5.heap.size, 0, none⟩ ?wx7 (.agg kc) L7.out ?_); (case wg7 => rfl); (case wo7 => rfl); (case wx7 => rfl)))
  clear L7
  refine (CP4.out g V8 F.out).mono ?_
  rintro e V9 ⟨rfl, hy⟩
  replace K := Lib.hid (K.out.trans (hy.mono K.out.size))
  replace C := Lib.hid (C.out.below hy C.out.lt)
  replace F := Lib.hid (F.out.below hy F.out.lt)
  replace N := Lib.hid (N.out.below hy N.out.lt)
  replace P7 := Lib.hid (P7.out.below hy P7.out.lt)
  clear hy
  have hal := (Below.refl V9.heap.size V9).alloc (Nat.le_refl _) (.cells #[.int .i64 0, .int .i64 0] 41)
  replace K := Lib.hid (K.out.trans (hal.mono K.out.size))
  replace C := Lib.hid (C.out.below hal C.out.lt)
  replace F := Lib.hid (F.out.below hal F.out.lt)
  replace N := Lib.hid (N.out.below hal N.out.lt)
  replace P7 := Lib.hid (P7.out.below hal P7.out.lt)
  have P9 := Lib.hid (Blk.new V9 41 #[.int .i64 0, .int .i64 0])
  clear hal
  go_upto_region 10 with fail
  have hzV10 : Hid ((V9.alloc (.cells #[.int .i64 0, .int .i64 0] 41)).heap.size = V9.heap.size + 1) := by show _ = _; simp only [World.size_alloc]
  generalize (V9.alloc (.cells #[.int .i64 0, .int .i64 0] 41)) = V10 at *
  refine wp_region_held (S := (fun w' : World => Below (V10.heap.size) V10 w')) (by kernel_rfl) ?_
  change wpAnyH _ _ _ _ _ _ _ _ V10.drew
  have hy : Below V10.heap.size V10 V10.drew := (Below.refl _ _).drew
  have hE0 : Below (V10.heap.size) V10 V10.drew := (Below.refl _ _).drew
  clear hy
  generalize V10.drew = Y10x0 at hE0  ⊢
  have E0 := Lib.hid hE0
  clear hE0
  refine tkA 0 (?_) ?_ E0.out ?_
  rotate_left
  · (intro w1 hS; go_simp; try with_reducible rfl)
  simp only [Act.put, tS1, tS2, tS3]
  refine tkA 1 (?_) ?_ E0.out ?_
  rotate_left
  · (intro w1 hS; go_simp; try with_reducible rfl)
  simp only [Act.put, tS1, tS2, tS3]
  refine tkA 2 (.agg PC) ?_ E0.out ?_
  · (intro w1 hS; have hW := hS; exact exec_load 41 (.tmp 7) rfl _ rfl _ (run_blk_load (P := Try.prog) 41 (V7.heap.size) _ (P7.out.below hW P7.out.lt) Try.underlying41 rfl PZ.out))
  simp only [Act.put, tS1, tS2, tS3]
  refine tkA 3 (.agg cc) ?_ E0.out ?_
  · (intro w1 hS; have hW := hS; exact exec_load 27 (.tmp 1) rfl _ rfl _ (run_blk_load (P := Try.prog) 27 (V1.heap.size) _ (C.out.below hW C.out.lt) Try.underlying27 rfl RZ.out))
  simp only [Act.put, tS1, tS2, tS3]
  refine tkA 4 (.agg kc) ?_ E0.out ?_
  · (intro w1 hS; have hW := hS; exact exec_load 31 (.tmp 6) rfl _ rfl _ (run_blk_load (P := Try.prog) 31 (V5.heap.size) _ (N.out.below hW N.out.lt) Try.underlying31 rfl KZ.out))
  simp only [Act.put, tS1, tS2, tS3]
  refine tkO 5 (fun KK hK => ?_)
  go_simp
  refine (CPO.out Y10x0).mono ?_
  rintro e Y10x1 ⟨rfl, hy⟩
  have E1 := Lib.hid (E0.out.trans (hy.mono E0.out.size))
  have C1 := Lib.hid E1.out
  clear hy E0
  refine hK.out _ _ C1.out (fun _ => ?_)
  clear hK KK
  refine wpAnyH_mono (S' := (fun w' : World => Below Y10x1.heap.size Y10x1 w')) (fun w1 h => C1.out.trans (h.mono C1.out.size)) _ _ _ _ ?_
  clear C1
  try simp only [Act.put, tS1, tS2, tS3]
  refine tkA 6 (.bool true) ?_ (Below.refl _ _) ?_
  · (intro w1 hS; exact exec_eql (.tmp 48) (.tmp 51) rfl _ _ rfl rfl true (EQ.out w1))
  simp only [Act.put, tS1, tS2, tS3]
  refine tkA 7 (?_) ?_ (Below.refl _ _) ?_
  rotate_left
  · (intro w1 hS; go_simp; try with_reducible rfl)
  simp only [Act.put, tS1, tS2, tS3]
  refine tkA 8 (?_) ?_ (Below.refl _ _) ?_
  rotate_left
  · (intro w1 hS; go_simp; try with_reducible rfl)
  simp only [Act.put, tS1, tS2, tS3]
  refine tkA 9 (?_) ?_ (Below.refl _ _) ?_
  rotate_left
  · (intro w1 hS; go_simp; try with_reducible rfl)
  simp only [Act.put, tS1, tS2, tS3]
  refine tkA 10 (?_) ?_ (Below.refl _ _) ?_
  rotate_left
  · (intro w1 hS; go_simp; try with_reducible rfl)
  simp only [Act.put, tS1, tS2, tS3]
  refine tkA 11 (?_) ?_ (Below.refl _ _) ?_
  rotate_left
  · (intro w1 hS; go_simp; try with_reducible rfl)
  simp only [Act.put, tS1, tS2, tS3]
  refine tkA 12 (?_) ?_ (Below.refl _ _) ?_
  rotate_left
  · (intro w1 hS; go_simp; try with_reducible rfl)
  simp only [Act.put, tS1, tS2, tS3]
  refine tkA 13 (?_) ?_ (Below.refl _ _) ?_
  rotate_left
  · (intro w1 hS; go_simp; try with_reducible rfl)
  simp only [Act.put, tS1, tS2, tS3]
  refine tkA 14 (.agg kc) ?_ (Below.refl _ _) ?_
  · (intro w1 hS; have hW := E1.out.trans (hS.mono E1.out.size); exact exec_load 31 (.tmp 6) rfl _ rfl _ (run_blk_load (P := Try.prog) 31 (V5.heap.size) _ (N.out.below hW N.out.lt) Try.underlying31 rfl KZ.out))
  simp only [Act.put, tS1, tS2, tS3]
  refine tkO 15 (fun KK hK => ?_)
  go_simp
  refine (CB.out g Y10x1 (F.out.below E1.out F.out.lt)).mono ?_
  rintro e Y10x2 ⟨a, cp, rfl, hy⟩
  have E2 := Lib.hid (E1.out.trans (hy.mono E1.out.size))
  have C2 := Lib.hid hy
  clear hy E1
  refine hK.out _ _ C2.out (fun _ => ?_)
  clear hK KK
  refine wpAnyH_mono (S' := (fun w' : World => Below Y10x2.heap.size Y10x2 w')) (fun w1 h => C2.out.trans (h.mono C2.out.size)) _ _ _ _ ?_
  clear C2
  try simp only [Act.put, tS1, tS2, tS3]
  refine tkA 16 (?_) ?_ (Below.refl _ _) ?_
  rotate_left
  · (intro w1 hS; go_simp; try with_reducible rfl)
  simp only [Act.put, tS1, tS2, tS3]
  refine tkA 17 (?_) ?_ (Below.refl _ _) ?_
  rotate_left
  · (intro w1 hS; go_simp; try with_reducible rfl)
  simp only [Act.put, tS1, tS2, tS3]
  refine tkA 18 (?_) ?_ (Below.refl _ _) ?_
  rotate_left
  · (intro w1 hS; go_simp; try with_reducible rfl)
  simp only [Act.put, tS1, tS2, tS3]
  refine tkA 19 (?_) ?_ (Below.refl _ _) ?_
  rotate_left
  · (intro w1 hS; go_simp; try with_reducible rfl)
  simp only [Act.put, tS1, tS2, tS3]
  refine tkA 20 (?_) ?_ (Below.refl _ _) ?_
  rotate_left
  · (intro w1 hS; go_simp; try with_reducible rfl)
  simp only [Act.put, tS1, tS2, tS3]
  refine tkA 21 (.agg kc) ?_ (Below.refl _ _) ?_
  · (intro w1 hS; have hW := E2.out.trans (hS.mono E2.out.size); exact exec_load 31 (.tmp 6) rfl _ rfl _ (run_blk_load (P := Try.prog) 31 (V5.heap.size) _ (N.out.below hW N.out.lt) Try.underlying31 rfl KZ.out))
  simp only [Act.put, tS1, tS2, tS3]
  refine tkA 23 (.agg cc) ?_ (Below.refl _ _) ?_
  · (intro w1 hS; have hW := E2.out.trans (hS.mono E2.out.size); exact exec_load 27 (.tmp 1) rfl _ rfl _ (run_blk_load (P := Try.prog) 27 (V1.heap.size) _ (C.out.below hW C.out.lt) Try.underlying27 rfl RZ.out))
  simp only [Act.put, tS1, tS2, tS3]
  refine tkA 24 (.agg kc) ?_ (Below.refl _ _) ?_
  · (intro w1 hS; have hW := E2.out.trans (hS.mono E2.out.size); exact exec_load 31 (.tmp 6) rfl _ rfl _ (run_blk_load (P := Try.prog) 31 (V5.heap.size) _ (N.out.below hW N.out.lt) Try.underlying31 rfl KZ.out))
  simp only [Act.put, tS1, tS2, tS3]
  refine tkO 22 (fun KK hK => ?_)
  go_simp
  refine (CD.out g Y10x2 (F.out.below E2.out F.out.lt)).mono ?_
  rintro e Y10x3 ⟨rfl, hy⟩
  have E3 := Lib.hid (E2.out.trans (hy.mono E2.out.size))
  have C3 := Lib.hid hy
  clear hy E2
  refine hK.out _ _ C3.out (fun _ => ?_)
  clear hK KK
  refine wpAnyH_mono (S' := (fun w' : World => Below Y10x3.heap.size Y10x3 w')) (fun w1 h => C3.out.trans (h.mono C3.out.size)) _ _ _ _ ?_
  clear C3
  try simp only [Act.put, tS1, tS2, tS3]
  refine tkO 25 (fun KK hK => ?_)
  go_simp
  refine (CRD.out Y10x3).mono ?_
  rintro e Y10x4 ⟨rfl, hy⟩
  have E4 := Lib.hid (E3.out.trans (hy.mono E3.out.size))
  have C4 := Lib.hid hy
  clear hy E3
  refine hK.out _ _ C4.out (fun _ => ?_)
  clear hK KK
  refine wpAnyH_mono (S' := (fun w' : World => Below Y10x4.heap.size Y10x4 w')) (fun w1 h => C4.out.trans (h.mono C4.out.size)) _ _ _ _ ?_
  clear C4
  try simp only [Act.put, tS1, tS2, tS3]
  refine tkA 26 (?_) ?_ (Below.refl _ _) ?_
  rotate_left
  · (intro w1 hS; go_simp; try with_reducible rfl)
  simp only [Act.put, tS1, tS2, tS3]
  refine tkA 27 (?_) ?_ (Below.refl _ _) ?_
  rotate_left
  · (intro w1 hS; go_simp; try with_reducible rfl)
  simp only [Act.put, tS1, tS2, tS3]
  refine tkA 28 (?_) ?_ (Below.refl _ _) ?_
  rotate_left
  · (intro w1 hS; go_simp; try with_reducible rfl)
  simp only [Act.put, tS1, tS2, tS3]
  refine tkA 29 (?_) ?_ (Below.refl _ _) ?_
  rotate_left
  · (intro w1 hS; go_simp; try with_reducible rfl)
  simp only [Act.put, tS1, tS2, tS3]
  refine tkA 30 (.agg kc) ?_ (Below.refl _ _) ?_
  · (intro w1 hS; have hW := E4.out.trans (hS.mono E4.out.size); exact exec_load 31 (.tmp 6) rfl _ rfl _ (run_blk_load (P := Try.prog) 31 (V5.heap.size) _ (N.out.below hW N.out.lt) Try.underlying31 rfl KZ.out))
  simp only [Act.put, tS1, tS2, tS3]
  refine tkO 31 (fun KK hK => ?_)
  go_simp
  refine (CS.out g Y10x4 (F.out.below E4.out F.out.lt)).mono ?_
  rintro e Y10x5 ⟨rfl, hy⟩
  have E5 := Lib.hid (E4.out.trans (hy.mono E4.out.size))
  have C5 := Lib.hid hy
  clear hy E4
  refine hK.out _ _ C5.out (fun _ => ?_)
  clear hK KK
  refine wpAnyH_mono (S' := (fun w' : World => Below Y10x5.heap.size Y10x5 w')) (fun w1 h => C5.out.trans (h.mono C5.out.size)) _ _ _ _ ?_
  clear C5
  try simp only [Act.put, tS1, tS2, tS3]
  refine tkA 32 (?_) ?_ (Below.refl _ _) ?_
  rotate_left
  · (intro w1 hS; go_simp; try with_reducible rfl)
  simp only [Act.put, tS1, tS2, tS3]
  refine tkA 33 (?_) ?_ (Below.refl _ _) ?_
  rotate_left
  · (intro w1 hS; go_simp; try with_reducible rfl)
  simp only [Act.put, tS1, tS2, tS3]
  refine tkA 34 (?_) ?_ (Below.refl _ _) ?_
  rotate_left
  · (intro w1 hS; go_simp; try with_reducible rfl)
  simp only [Act.put, tS1, tS2, tS3]
  refine tkA 35 (.agg cc) ?_ (Below.refl _ _) ?_
  · (intro w1 hS; have hW := E5.out.trans (hS.mono E5.out.size); exact exec_load 27 (.tmp 1) rfl _ rfl _ (run_blk_load (P := Try.prog) 27 (V1.heap.size) _ (C.out.below hW C.out.lt) Try.underlying27 rfl RZ.out))
  simp only [Act.put, tS1, tS2, tS3]
  refine tkO 36 (fun KK hK => ?_)
  go_simp
  refine (CC.out Y10x5).mono ?_
  rintro e Y10x6 ⟨rfl, hy⟩
  have E6 := Lib.hid (E5.out.trans (hy.mono E5.out.size))
  have C6 := Lib.hid hy
  clear hy E5
  refine hK.out _ _ C6.out (fun _ => ?_)
  clear hK KK
  refine wpAnyH_mono (S' := (fun w' : World => Below Y10x6.heap.size Y10x6 w')) (fun w1 h => C6.out.trans (h.mono C6.out.size)) _ _ _ _ ?_
  clear C6
  try simp only [Act.put, tS1, tS2, tS3]
  refine tkA 37 (?_) ?_ (Below.refl _ _) ?_
  rotate_left
  · (intro w1 hS; go_simp; try with_reducible rfl)
  simp only [Act.put, tS1, tS2, tS3]
  refine tkA 38 (?_) ?_ (Below.refl _ _) ?_
  rotate_left
  · (intro w1 hS; go_simp; try with_reducible rfl)
  simp only [Act.put, tS1, tS2, tS3]
  refine tkA 39 (?_) ?_ (Below.refl _ _) ?_
  rotate_left
  · (intro w1 hS; go_simp; try with_reducible rfl)
  simp only [Act.put, tS1, tS2, tS3]
  refine tkA 40 (?_) ?_ (Below.refl _ _) ?_
  rotate_left
  · (intro w1 hS; go_simp; try with_reducible rfl)
  simp only [Act.put, tS1, tS2, tS3]
  refine tkA 41 (.agg kc) ?_ (Below.refl _ _) ?_
  · (intro w1 hS; have hW := E6.out.trans (hS.mono E6.out.size); exact exec_load 31 (.tmp 6) rfl _ rfl _ (run_blk_load (P := Try.prog) 31 (V5.heap.size) _ (N.out.below hW N.out.lt) Try.underlying31 rfl KZ.out))
  simp only [Act.put, tS1, tS2, tS3]
  refine tkO 42 (fun KK hK => ?_)
  go_simp
  refine (CDN.out Y10x6).mono ?_
  rintro e Y10x7 ⟨rfl, hy⟩
  have E7 := Lib.hid (E6.out.trans (hy.mono E6.out.size))
  have C7 := Lib.hid hy
  clear hy E6
  refine hK.out _ _ C7.out (fun _ => ?_)
  clear hK KK
  refine wpAnyH_mono (S' := (fun w' : World => Below Y10x7.heap.size Y10x7 w')) (fun w1 h => C7.out.trans (h.mono C7.out.size)) _ _ _ _ ?_
  clear C7
  try simp only [Act.put, tS1, tS2, tS3]
  refine tkA 43 (?_) ?_ (Below.refl _ _) ?_
  rotate_left
  · (intro w1 hS; go_simp; try with_reducible rfl)
  simp only [Act.put, tS1, tS2, tS3]
  refine tkA 44 (?_) ?_ (Below.refl _ _) ?_
  rotate_left
  · (intro w1 hS; go_simp; try with_reducible rfl)
  simp only [Act.put, tS1, tS2, tS3]
  refine tkA 45 (?_) ?_ (Below.refl _ _) ?_
  rotate_left
  · (intro w1 hS; go_simp; try with_reducible rfl)
  simp only [Act.put, tS1, tS2, tS3]
  refine tkA 46 (?_) ?_ (Below.refl _ _) ?_
  rotate_left
  · (intro w1 hS; go_simp; try with_reducible rfl)
  simp only [Act.put, tS1, tS2, tS3]
  refine tkA 47 (.agg kc) ?_ (Below.refl _ _) ?_
  · (intro w1 hS; have hW := E7.out.trans (hS.mono E7.out.size); exact exec_load 31 (.tmp 6) rfl _ rfl _ (run_blk_load (P := Try.prog) 31 (V5.heap.size) _ (N.out.below hW N.out.lt) Try.underlying31 rfl KZ.out))
  simp only [Act.put, tS1, tS2, tS3]
  refine tkO 48 (fun KK hK => ?_)
  go_simp
  refine (CBN.out Y10x7).mono ?_
  rintro e Y10x8 ⟨rfl, hy⟩
  have E8 := Lib.hid (E7.out.trans (hy.mono E7.out.size))
  have C8 := Lib.hid hy
  clear hy E7
  refine hK.out _ _ C8.out (fun _ => ?_)
  clear hK KK
  refine wpAnyH_mono (S' := (fun w' : World => Below Y10x8.heap.size Y10x8 w')) (fun w1 h => C8.out.trans (h.mono C8.out.size)) _ _ _ _ ?_
  clear C8
  try simp only [Act.put, tS1, tS2, tS3]
  refine tkA 49 (?_) ?_ (Below.refl _ _) ?_
  rotate_left
  · (intro w1 hS; go_simp; try with_reducible rfl)
  simp only [Act.put, tS1, tS2, tS3]
  refine tkA 50 (?_) ?_ (Below.refl _ _) ?_
  rotate_left
  · (intro w1 hS; go_simp; try with_reducible rfl)
  simp only [Act.put, tS1, tS2, tS3]
  refine tkA 51 (?_) ?_ (Below.refl _ _) ?_
  rotate_left
  · (intro w1 hS; go_simp; try with_reducible rfl)
  simp only [Act.put, tS1, tS2, tS3]
  refine tkA 52 (?_) ?_ (Below.refl _ _) ?_
  rotate_left
  · (intro w1 hS; go_simp; try with_reducible rfl)
  simp only [Act.put, tS1, tS2]
  refine wpAnyH_done (by kernel_rfl) ?_ _
  have hy := E8.out
  replace K := Lib.hid (K.out.trans (hy.mono K.out.size))
  replace C := Lib.hid (C.out.below hy C.out.lt)
  replace F := Lib.hid (F.out.below hy F.out.lt)
  replace N := Lib.hid (N.out.below hy N.out.lt)
  replace P7 := Lib.hid (P7.out.below hy P7.out.lt)
  replace P9 := Lib.hid (P9.out.below hy P9.out.lt)
  clear hy E8
  go_wp2
  go_ret
  exact ⟨rfl, K.out⟩
end Go.Proofs.Ytblkpnjmmdbgnaa
