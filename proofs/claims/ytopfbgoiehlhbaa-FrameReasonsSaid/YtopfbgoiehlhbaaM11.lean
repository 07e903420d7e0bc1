/- Texts that the walks of this seat lean on, put together: each has its own remark below. -/
import Derived.Test.YtopfbgoiehlhbaaM09

/- bazaarref1.GoodSeg. -/
namespace Go.Proofs.Ytopfbgoiehlhbaa
open Go.RowKit

set_option maxRecDepth 100000 in
set_option maxHeartbeats 1000000 in
theorem rsum4_any (va : Value) (zs : List Nat) (start : Nat) (w : World) (hr : Rd w va (nus .u8 zs)) (hz : zs.length ≤ 4000) (hb : ∀ c ∈ zs, c < 256) (hs : start < 4294967296) :
    Calls Try.prog 33 #[va, .int .u32 (start : Int)] w fun e w' => e = .returned (.int .i64 (gr (start + wsp 0 zs) : Nat)) ∧ w = w' := by
  have HR := Lib.hid hr
  obtain ⟨a, cap, rfl, h1, h2, -⟩ := hr
  rw [nus_length] at h1 HR ⊢
  unfold maxLen at h2
  obtain ⟨len, hl⟩ : ∃ n, n = zs.length := ⟨_, rfl⟩
  rw [← hl] at h1 hz HR ⊢
  have HL := Lib.hid hl
  have HB := Lib.hid hb
  clear hl hb
  go_enter Try.func33, Try.ntmps33
  go_wp2
  go_loop [5, 6] (fun u i => ∃ j p s : Nat, p = 2 * j ∧ p ≤ len + 1 ∧ i = .int .i64 (p : Int) ∧ s = start + wsp 0 (zs.take p) ∧ u = .int .u64 (s : Int)) (fun _ i => len + 1 - (intOf i).toNat)
  case atStart => exact ⟨0, 0, start, rfl, by omega, rfl, by simp [wsp], rfl⟩
  case round =>
    obtain ⟨j, p, s, hp, hpl, rfl, hse, rfl⟩ := hrel
    have hsl : s < 4560000000 := by
      have := wsp_take_lt zs p HB.out
      rw [← HL.out] at this
      omega
    have HS := Lib.hid hse
    have HP := Lib.hid hp
    clear hse hp
    by_cases hlt : p < len
    · obtain ⟨b, o, rfl, hc⟩ := HR.out.cells (by omega)
      have c0 := hc p hlt
      have hx := getD_lt zs HB.out p
      have hw := wsp_two zs j (by rw [← HP.out, ← HL.out]; exact hlt)
      rw [show 2 * (j + 1) = p + 2 from by rw [HP.out]; omega, ← HP.out] at hw
      unfold w2 at hw
      rw [← HP.out] at hw
      have HW := Lib.hid hw
      obtain ⟨x, hxe⟩ : ∃ x, x = zs.getD p 0 := ⟨_, rfl⟩
      rw [← hxe] at c0 hx
      have HX := Lib.hid hxe
      have HC := Lib.hid hc
      clear hw hxe hc
      by_cases hlt2 : p + 1 < len
      · have c1 := HC.out (p + 1) hlt2
        have hy := getD_lt zs HB.out (p + 1)
        obtain ⟨y, hye⟩ : ∃ y, y = zs.getD (p + 1) 0 := ⟨_, rfl⟩
        rw [← hye] at c1 hy
        have HY := Lib.hid hye
        clear hye
        go_wp2
        go_round
        case rel => exact ⟨j + 1, p + 2, s + x * 256 + y, by have := HP.out; omega, by omega, by go_num, by have := HS.out; have := HX.out; have := HY.out; rw [HW.out, ← HX.out, ← HY.out]; omega, by go_num⟩
        case measure => simp [intOf]; omega
      · have hy : zs.getD (p + 1) 0 = 0 := by rw [List.getD_eq_getElem?_getD, List.getElem?_eq_none (by rw [← HL.out]; omega)]; rfl
        have HY := Lib.hid hy
        clear hy
        go_wp2
        go_round
        case rel => exact ⟨j + 1, p + 2, s + x * 256, by have := HP.out; omega, by omega, by go_num, by rw [HW.out, HY.out, ← HX.out, HS.out]; omega, by go_num⟩
        case measure => simp [intOf]; omega
    · have hse : s = start + wsp 0 zs := by rw [HS.out, List.take_of_length_le (by rw [← HL.out]; omega)]
      have HSE := Lib.hid hse
      clear hse
      go_wp2
      go_loop [5] (fun v => ∃ x : Nat, gr x = gr s ∧ x < 4611686018427387904 ∧ v = .int .u64 x) (fun v => (intOf v).toNat)
      case atStart => exact ⟨s, rfl, by omega, rfl⟩
      case round =>
        obtain ⟨x, hg, hx, rfl⟩ := hrel
        have HG := Lib.hid hg
        clear hg
        by_cases hlt : 65535 < x
        · have hst := Lib.hid (gr_step x hlt)
          have ho := Lib.hid (go_on x (by omega))
          go_wp2
          go_round
          case rel => exact ⟨x / 65536 + x % 65536, by rw [hst.out, HG.out], by omega, by rw [ho.out]⟩
          case measure => rw [ho.out]; simp [intOf]; omega
        · have hfin := Lib.hid (gr_lt s x HG.out (by omega))
          go_wp2
          go_ret
          exact ⟨ret_int (by rw [← HSE.out, ← hfin.out]), rfl⟩


set_option maxRecDepth 100000 in
set_option maxHeartbeats 1000000 in
theorem rgood_no (p : Nat) (v : Value) (zs : List Nat) (v1 : Bool) (F : List Nat) (v2 : Bool) (D : List Nat) (w : World) (hr : Rd w v (nus .u8 zs)) (hb : ∀ c ∈ zs, c < 256) (h : fs p zs ≠ 0 ∨ v1 ≠ v2) :
    Calls Try.prog 28 #[.int .u8 (p : Int), v, adr v1 F, adr v2 D] w fun e w' => e = .returned (.bool false) ∧ Below w.heap.size w w' := by
  have YH : Hid ((rs7 p zs).size = Array.size (#[Value.int .i64 0, .int .i64 0, .int .u8 0] : Array Value)) := rs7_size p zs
  have ZH := Lib.hid (i34.trans (congrArg some (rs7_size p zs).symm))
  have AH := Lib.hid (rs7_all p zs)
  have CS := Lib.hid (fun W (h : Rd W v (nus .u8 zs)) => rread_any p v zs W h hb)
  obtain ⟨a, cap, rfl, -, -⟩ := rd_shape hr
  unfold adr
  have E1 := Lib.hid (show (cellsA v1 F)[0]? = some (.bool v1) from cellsA_head _ _)
  have E2 := Lib.hid (show (cellsA v2 D)[0]? = some (.bool v2) from cellsA_head _ _)
  have I1 := Lib.hid (show True from trivial)
  have I2 := Lib.hid (show True from trivial)
  generalize cellsA v1 F = c1 at *
  generalize cellsA v2 D = c2 at *
  generalize rs7 p zs = H at *
  generalize fs p zs = r at *
  generalize zs.length = n at *
  have K := Lib.hid (Below.refl w.heap.size w)
  have HR := Lib.hid hr
  clear hr hb
  go_enter Try.func28, Try.ntmps28
  have hal := (Below.refl w.heap.size w).alloc (Nat.le_refl _) (.cells c1 26)
  replace K := Lib.hid (K.out.trans (hal.mono K.out.size))
  have N1 := Lib.hid (Blk.new w 26 c1)
  clear hal
  have hal := (Below.refl (w.alloc (.cells c1 26)).heap.size (w.alloc (.cells c1 26))).alloc (Nat.le_refl _) (.cells c2 26)
  replace K := Lib.hid (K.out.trans (hal.mono K.out.size))
  replace N1 := Lib.hid (N1.out.below hal N1.out.lt)
  have N2q := Blk.new (w.alloc (.cells c1 26)) 26 c2
  simp only [World.size_alloc] at N2q
  have N2 := Lib.hid N2q
  clear N2q
  clear hal
  go_wp2_with fail
  have hzV1 : Hid (((w.alloc (.cells c1 26)).alloc (.cells c2 26)).heap.size = w.heap.size + 1 + 1) := by show _ = _; simp only [World.size_alloc]
  generalize ((w.alloc (.cells c1 26)).alloc (.cells c2 26)) = V1 at *
  refine (CS.out _ (HR.out.below K.out)).mono ?_
  rintro e V2 ⟨rfl, hy⟩
  replace K := Lib.hid (K.out.trans (hy.mono K.out.size))
  replace N1 := Lib.hid (N1.out.below hy N1.out.lt)
  replace N2 := Lib.hid (N2.out.below hy N2.out.lt)
  clear hy
  go_wp2_with (((with_reducible refine wpList_blk_store (op := ⟨none, .store 60 (.tmp 9) (.tmp 17), _, _, _, _⟩) ?sg1 60 (.tmp 9) (.tmp 17) ?so1 (V2.heap.size) H ?sx1 ?sy1 (Blk.new V2 60 #[Value.int .i64 0, .int .i64 0, .int .u8 0]) YH.out ZH.out AH.out ?_); (case sg1 => rfl); (case so1 => rfl); (case sx1 => rfl); (case sy1 => rfl)))
  have qN1NS : w.heap.size < V2.heap.size := N1.out.lt
  have qN2NS : w.heap.size + 1 < V2.heap.size := N2.out.lt
  intro V3 hA hF hB
  have hy := ((Below.refl V2.heap.size V2).alloc (Nat.le_refl _) (.cells #[Value.int .i64 0, .int .i64 0, .int .u8 0] 60)).trans (hB _ (Nat.le_refl _))
  replace K := Lib.hid (K.out.trans (hy.mono K.out.size))
  replace N1 := Lib.hid (N1.out.below hy N1.out.lt)
  replace N2 := Lib.hid (N2.out.below hy N2.out.lt)
  have NS := Lib.hid hA
  clear hA hF hB hy
  have hc1 := (N1.out.cell 0).trans E1.out
  have hc2 := (N2.out.cell 0).trans E2.out
  by_cases hr0 : r = 0
  · have hv : v1 ≠ v2 := by rcases h with h | h; exact absurd hr0 h; exact h
    subst hr0
    clear h
    cases v1 <;> cases v2
    · exact absurd rfl hv
    · clear hv
      go_wp2
      go_ret
      exact ⟨rfl, K.out⟩
    · clear hv
      go_wp2
      go_ret
      exact ⟨rfl, K.out⟩
    · exact absurd rfl hv
  · have g0 : ((r : Int) != 0) = true := by simp; omega
    clear h hr0 hc1 hc2
    go_wp2
    go_ret
    exact ⟨rfl, K.out⟩

set_option maxRecDepth 100000 in
set_option maxHeartbeats 4000000 in
theorem rgood_yes (p : Nat) (v : Value) (zs : List Nat) (v1 : Bool) (S D : List Nat) (w : World) (hr : Rd w v (nus .u8 zs)) (hb : ∀ c ∈ zs, c < 256) (h : fs p zs = 0) (hz : zs.length ≤ 3000) (hp : p < 256)
    (hS : S.length = 16) (hD : D.length = 16) (hbS : ∀ c ∈ S, c < 256) (hbD : ∀ c ∈ D, c < 256) :
    Calls Try.prog 28 #[.int .u8 (p : Int), v, adr v1 S, adr v1 D] w fun e w' => e = .returned (.bool (wo p zs || decide (gr (tsum p zs v1 S D) = 65535))) ∧ Below w.heap.size w w' := by
  have YH : Hid ((rs7 p zs).size = Array.size (#[Value.int .i64 0, .int .i64 0, .int .u8 0] : Array Value)) := rs7_size p zs
  have ZH := Lib.hid (i34.trans (congrArg some (rs7_size p zs).symm))
  have AH := Lib.hid (rs7_all p zs)
  have CS := Lib.hid (fun W (h : Rd W v (nus .u8 zs)) => rread_any p v zs W h hb)
  rw [h] at CS
  have hn8 : 8 ≤ zs.length := by rcases fs_yes p zs h with ⟨-, h1, -⟩ | ⟨-, h1, -⟩ <;> omega
  obtain ⟨a, cap, rfl, hlc, hlm⟩ := rd_shape hr
  obtain ⟨b, off, rfl, -⟩ := hr.cells (by omega)
  have CB1 := Lib.hid (fun w' => rbytes_own v1 S hS w')
  have CB2 := Lib.hid (fun w' => rbytes_own v1 D hD w')
  have lF := bytesA_len v1 S hS
  have lD := bytesA_len v1 D hD
  obtain ⟨m1, hm1⟩ : ∃ m, m = (bytesA v1 S).length := ⟨_, rfl⟩
  obtain ⟨m2, hm2⟩ : ∃ m, m = (bytesA v1 D).length := ⟨_, rfl⟩
  have h1 : 0 < m1 ∧ m1 ≤ 16 := by rw [hm1, lF]; split <;> omega
  have h2 : 0 < m2 ∧ m2 ≤ 16 := by rw [hm2, lD]; split <;> omega
  rw [← hm1] at CB1
  rw [← hm2] at CB2
  have CW := Lib.hid (fun W (h : Rd W (.slice (some ⟨b, off, none⟩) zs.length cap) (nus .u8 zs)) => be16_b _ _ _ 6 zs W h hb (by omega))
  have hwl := u2_lt zs 6 hb
  have HW : Hid (wo p zs = decide (p = 17 ∧ u2 zs 6 = 0)) := rfl
  obtain ⟨d1, hd1⟩ : ∃ d, d = zs.length / 16777216 % 256 := ⟨_, rfl⟩
  obtain ⟨d2, hd2⟩ : ∃ d, d = zs.length / 65536 % 256 := ⟨_, rfl⟩
  obtain ⟨d3, hd3⟩ : ∃ d, d = zs.length / 256 % 256 := ⟨_, rfl⟩
  obtain ⟨d4, hd4⟩ : ∃ d, d = zs.length % 256 := ⟨_, rfl⟩
  have HX : Hid (psd v1 S D p zs.length = bytesA v1 S ++ bytesA v1 D ++ (if v1 then [d1, d2, d3, d4, 0, 0, 0, p] else [0, p, d3, d4])) := by
    show _ = _
    unfold psd
    have e1 : zs.length / 256 / 256 = zs.length / 65536 := by omega
    have e2 : zs.length / 65536 / 256 = zs.length / 16777216 := by omega
    rw [hd1, hd2, hd3, hd4]
    cases v1 <;> simp [bg, e1, e2]
  have hw1 : IntKind.u8.wrap ((zs.length : Int) / 16777216) = (d1 : Int) := by rw [IntKind.wrap_u8]; omega
  have hw2 : IntKind.u8.wrap ((zs.length : Int) / 65536) = (d2 : Int) := by rw [IntKind.wrap_u8]; omega
  have hw3 : IntKind.u8.wrap ((zs.length : Int) / 256) = (d3 : Int) := by rw [IntKind.wrap_u8]; omega
  have hw4 : IntKind.u8.wrap (zs.length : Int) = (d4 : Int) := by rw [IntKind.wrap_u8]; omega
  have lP := psd_len v1 S D p zs.length hS hD
  have hJ : (psd v1 S D p zs.length ++ zs).length ≤ 4000 := by rw [List.length_append, lP]; split <;> omega
  have bJ : ∀ c ∈ psd v1 S D p zs.length ++ zs, c < 256 := by
    intro c hc; rcases List.mem_append.1 hc with h | h
    · exact psd_lt v1 S D p zs.length hbS hbD hp c h
    · exact hb c h
  have CSM := Lib.hid (fun W x (h : Rd W x (nus .u8 (psd v1 S D p zs.length ++ zs))) => rsum4_any x (psd v1 S D p zs.length ++ zs) 0 W h hJ bJ (by omega))
  rw [wsp_joined v1 S D p zs hS hD, Nat.zero_add] at CSM
  have hgt := gr_le (tsum p zs v1 S D)
  unfold adr at CB1 CB2 ⊢
  have E1 := Lib.hid (show (cellsA v1 S)[0]? = some (.bool v1) from cellsA_head _ _)
  have E2 := Lib.hid (show (cellsA v1 D)[0]? = some (.bool v1) from cellsA_head _ _)
  have z1 : (cellsA v1 S).size = 17 := by rw [cellsA_size, hS]
  have z2 : (cellsA v1 D).size = 17 := by rw [cellsA_size, hD]
  have I1 := Lib.hid (i24.trans (congrArg some z1.symm))
  have I2 := Lib.hid (i24.trans (congrArg some z2.symm))
  have K := Lib.hid (Below.refl w.heap.size w)
  have HR := Lib.hid hr
  have HPL := Lib.hid (show zs.length ≤ 3000 from hz)
  clear hr hb h z1 z2 hbS hbD lP hS hD hd1 hd2 hd3 hd4 hm1 hm2 lF lD hJ bJ
  generalize cellsA v1 S = c1 at *
  generalize cellsA v1 D = c2 at *
  generalize gr (tsum p zs v1 S D) = gt at *
  generalize psd v1 S D p zs.length = ps at *
  generalize bytesA v1 S = bf at *
  generalize bytesA v1 D = bd at *
  generalize wo p zs = wq at *
  generalize u2 zs 6 = o0 at *
  generalize rs7 p zs = H at *
  generalize zs.length = n at *
  unfold maxLen at hlm
  generalize hdq : decide (gt = 65535) = dq
  have HDQ := Lib.hid hdq
  clear hdq
  go_enter Try.func28, Try.ntmps28
  have hal := (Below.refl w.heap.size w).alloc (Nat.le_refl _) (.cells c1 26)
  replace K := Lib.hid (K.out.trans (hal.mono K.out.size))
  have N1 := Lib.hid (Blk.new w 26 c1)
  clear hal
  have hal := (Below.refl (w.alloc (.cells c1 26)).heap.size (w.alloc (.cells c1 26))).alloc (Nat.le_refl _) (.cells c2 26)
  replace K := Lib.hid (K.out.trans (hal.mono K.out.size))
  replace N1 := Lib.hid (N1.out.below hal N1.out.lt)
  have N2q := Blk.new (w.alloc (.cells c1 26)) 26 c2
  simp only [World.size_alloc] at N2q
  have N2 := Lib.hid N2q
  clear N2q
  clear hal
  go_wp2_with fail
  have hzV1 : Hid (((w.alloc (.cells c1 26)).alloc (.cells c2 26)).heap.size = w.heap.size + 1 + 1) := by show _ = _; simp only [World.size_alloc]
  generalize ((w.alloc (.cells c1 26)).alloc (.cells c2 26)) = V1 at *
  refine (CS.out _ (HR.out.below K.out)).mono ?_
  rintro e V2 ⟨rfl, hy⟩
  replace K := Lib.hid (K.out.trans (hy.mono K.out.size))
  replace N1 := Lib.hid (N1.out.below hy N1.out.lt)
  replace N2 := Lib.hid (N2.out.below hy N2.out.lt)
  clear hy
  go_wp2_with (((with_reducible refine wpList_blk_store (op := ⟨none, .store 60 (.tmp 9) (.tmp 17), _, _, _, _⟩) ?sg2 60 (.tmp 9) (.tmp 17) ?so2 (V2.heap.size) H ?sx2 ?sy2 (Blk.new V2 60 #[Value.int .i64 0, .int .i64 0, .int .u8 0]) YH.out ZH.out AH.out ?_); (case sg2 => rfl); (case so2 => rfl); (case sx2 => rfl); (case sy2 => rfl)))
  have qN1NS : w.heap.size < V2.heap.size := N1.out.lt
  have qN2NS : w.heap.size + 1 < V2.heap.size := N2.out.lt
  intro V3 hA hF hB
  have hy := ((Below.refl V2.heap.size V2).alloc (Nat.le_refl _) (.cells #[Value.int .i64 0, .int .i64 0, .int .u8 0] 60)).trans (hB _ (Nat.le_refl _))
  replace K := Lib.hid (K.out.trans (hy.mono K.out.size))
  replace N1 := Lib.hid (N1.out.below hy N1.out.lt)
  replace N2 := Lib.hid (N2.out.below hy N2.out.lt)
  have NS := Lib.hid hA
  clear hA hF hB hy
  have hc1 := (N1.out.cell 0).trans E1.out
  have hc2 := (N2.out.cell 0).trans E2.out
  have ge : (v1 != v1) = false := by cases v1 <;> rfl
  by_cases h17 : p = 17
  · subst h17
    cases wq with
    | true =>
      obtain ⟨-, rfl⟩ := of_decide_eq_true HW.out.symm
      clear HW
      go_wp2_with fail
      refine (CW.out _ (HR.out.below K.out)).mono ?_
      rintro e V4 ⟨rfl, hy⟩
      replace K := Lib.hid (K.out.trans (hy.mono K.out.size))
      replace N1 := Lib.hid (N1.out.below hy N1.out.lt)
      replace N2 := Lib.hid (N2.out.below hy N2.out.lt)
      replace NS := Lib.hid (NS.out.below hy NS.out.lt)
      clear hy
      clear hc1 hc2 ge
      go_wp2
      go_ret
      exact ⟨rfl, K.out⟩
    | false =>
      have g4 : ((o0 : Int) == 0) = false := by
        have := of_decide_eq_false HW.out.symm
        rw [beq_eq_false_iff_ne]; omega
      clear HW
      go_wp2_with fail
      refine (CW.out _ (HR.out.below K.out)).mono ?_
      rintro e V4 ⟨rfl, hy⟩
      replace K := Lib.hid (K.out.trans (hy.mono K.out.size))
      replace N1 := Lib.hid (N1.out.below hy N1.out.lt)
      replace N2 := Lib.hid (N2.out.below hy N2.out.lt)
      replace NS := Lib.hid (NS.out.below hy NS.out.lt)
      clear hy
      go_upto_region 6 with fail
      clear hc1 hc2 ge
      have hlow : V4.heap.size ≤ V4.heap.size := Nat.le_refl _
      have qK := K.out.size
      have qN1 := N1.out.lt
      have qN2 := N2.out.lt
      have qNS := NS.out.lt
      refine wp_region_held (S := (fun w' : World => Below (V4.heap.size) V4 w')) (by kernel_rfl) ?_
      change wpAnyH _ _ _ _ _ _ _ _ V4.drew
      have hy : Below V4.heap.size V4 V4.drew := (Below.refl _ _).drew
      have hE0 : Below (V4.heap.size) V4 V4.drew := (Below.refl _ _).drew
      clear hy
      generalize V4.drew = Y6x0 at hE0  ⊢
      have E0 := Lib.hid hE0
      clear hE0
      refine wpAnyH_take (i := 0) (oi := { dst := some 35, op := Op.load 26 (Operand.tmp 6), type := 26, pos := "frame.go:351", after := #[], guard := none }) (v := .agg c1) rfl (by kernel_rfl) (by kernel_rfl) (by kernel_rfl) (fun _ _ _ h => h) (Or.inl ⟨by rfl, ?_⟩) E0.out ?_
      · (intro w1 hS; have hW := hS; exact exec_load 26 (.tmp 6) rfl _ rfl _ (run_blk_load (P := Try.prog) 26 (w.heap.size) _ (N1.out.below hW (by omega)) Try.underlying26 rfl I1.out))
      simp only [Act.put, List.setIfInBounds_toArray, List.set_cons_zero, List.set_cons_succ]
      refine wpAnyH_take (i := 2) (oi := { dst := some 37, op := Op.load 26 (Operand.tmp 7), type := 26, pos := "frame.go:351", after := #[], guard := none }) (v := .agg c2) rfl (by kernel_rfl) (by kernel_rfl) (by kernel_rfl) (fun _ _ _ h => h) (Or.inl ⟨by rfl, ?_⟩) E0.out ?_
      · (intro w1 hS; have hW := hS; exact exec_load 26 (.tmp 7) rfl _ rfl _ (run_blk_load (P := Try.prog) 26 (w.heap.size + 1) _ (N2.out.below hW (by omega)) Try.underlying26 rfl I2.out))
      simp only [Act.put, List.setIfInBounds_toArray, List.set_cons_zero, List.set_cons_succ]
      refine wpAnyH_ready (rs := [1]) (by kernel_rfl) (by simp) ?_
      refine AllReadyH.cons (o := { dst := some 36, op := Op.call { callee := Callee.value (Operand.func 32), args := #[Operand.tmp 35], argTypes := #[26] }, type := 22, pos := "frame.go:351", after := #[{ on := 0, ground := Ground.data }], guard := none }) rfl (fun KK hK => ?_) AllReadyH.nil
      go_simp
      refine (CB1.out Y6x0).mono ?_
      rintro e Y6x1 ⟨z1, rfl, hz1, hy⟩
      have E1 := Lib.hid (E0.out.trans (hy.mono (Nat.le_trans hlow E0.out.size)))
      have C1 := Lib.hid E1.out
      have Z1 := Lib.hid (own_low E0.out.size hz1)
      clear hz1
      clear hy E0
      refine hK.out _ _ C1.out (fun _ => ?_)
      clear hK KK
      clear C1
      try simp only [Act.put, List.setIfInBounds_toArray, List.set_cons_zero, List.set_cons_succ]
      obtain ⟨g1, k1, rfl, -, -, hg1, -⟩ := own_at Z1.out (by omega)
      refine wpAnyH_ready (rs := [3]) (by kernel_rfl) (by simp) ?_
      refine AllReadyH.cons (o := { dst := some 38, op := Op.call { callee := Callee.value (Operand.func 32), args := #[Operand.tmp 37], argTypes := #[26] }, type := 22, pos := "frame.go:351", after := #[{ on := 2, ground := Ground.data }, { on := 1, ground := Ground.chain }], guard := none }) rfl (fun KK hK => ?_) AllReadyH.nil
      go_simp
      refine (CB2.out Y6x1).mono ?_
      rintro e Y6x2 ⟨z2, rfl, hz2, hy⟩
      replace Z1 := Lib.hid (row_under Z1.out hy)
      have E2 := Lib.hid (E1.out.trans (hy.mono (Nat.le_trans hlow E1.out.size)))
      have C2 := Lib.hid E2.out
      have Z2 := Lib.hid (hz2)
      clear hz2
      clear hy E1
      refine hK.out _ _ C2.out (fun _ => ?_)
      clear hK KK
      clear C2
      try simp only [Act.put, List.setIfInBounds_toArray, List.set_cons_zero, List.set_cons_succ]
      obtain ⟨g2, k2, rfl, -, -, -, -⟩ := own_at Z2.out (by omega)
      refine wpAnyH_ready (rs := [4]) (by kernel_rfl) (by simp) ?_
      refine AllReadyH.cons (o := { dst := some 39, op := Op.call { callee := Callee.builtin Builtin.append, args := #[Operand.tmp 36, Operand.tmp 38], argTypes := #[22, 22] }, type := 22, pos := "frame.go:351", after := #[{ on := 1, ground := Ground.data }, { on := 3, ground := Ground.data }, { on := 3, ground := Ground.chain }], guard := none }) rfl (fun KK hK => ?_) AllReadyH.nil
      rw [if_pos (by rfl)]
      refine wp_app (.tmp 36) (.tmp 38) rfl (V4.heap.size) (.slice (some ⟨g1, 0, none⟩) m1 k1) m1 bf rfl Z1.out (some ⟨g2, 0, none⟩) (m2) (k2) bd rfl (Rd.own Z2.out) (by intro e; cases e) (by omega) (Nat.le_trans hlow E2.out.size) ?_
      intro vx Y6x3 oz gz
      clear Z2
      replace Z1 := Lib.hid oz
      clear oz
      have E3 := Lib.hid (E2.out.grown gz (Nat.le_trans hlow E2.out.size) (fun k e => by cases e; first | exact Nat.le_refl _ | omega))
      obtain ⟨g3, k3, rfl, hk3, hk3m, hg3, hg3u⟩ := own_at Z1.out (by omega)
      clear gz E2
      refine hK.out _ _ E3.out (fun _ => ?_)
      clear hK KK
      try simp only [Act.put, List.setIfInBounds_toArray, List.set_cons_zero, List.set_cons_succ]
      refine wpAnyH_take (i := 5) (oi := { dst := some 11, op := Op.assign (Operand.tmp 39), type := 22, pos := "frame.go:351", after := #[{ on := 4, ground := Ground.data }, { on := 4, ground := Ground.chain }, { on := 0, ground := Ground.phase }, { on := 1, ground := Ground.phase }, { on := 2, ground := Ground.phase }, { on := 3, ground := Ground.phase }, { on := 4, ground := Ground.phase }], guard := none }) (v := ?_) rfl (by kernel_rfl) (by kernel_rfl) (by kernel_rfl) (fun _ _ _ h => h) (Or.inl ⟨by rfl, ?_⟩) E3.out ?_
      rotate_left
      · (intro w1 hS; go_simp; try with_reducible rfl)
      simp only [Act.put, List.setIfInBounds_toArray, List.set_cons_zero, List.set_cons_succ]
      refine wpAnyH_done (by kernel_rfl) ?_ _
      replace K := Lib.hid (K.out.trans (E3.out.mono (by omega)))
      replace N1 := Lib.hid (N1.out.below E3.out (by omega))
      replace N2 := Lib.hid (N2.out.below E3.out (by omega))
      replace NS := Lib.hid (NS.out.below E3.out (by omega))
      clear E3
      have O := Lib.hid (own_low qK Z1.out)
      have L := Lib.hid K.out
      clear K Z1 N2 NS
      have hc1 := (N1.out.cell 0).trans E1.out
      clear N1
      cases v1 with
      | true =>
        have hal := (Below.refl Y6x3.heap.size Y6x3).alloc (Nat.le_refl _) (.cells #[.int .u8 (d1 : Int), .int .u8 (d2 : Int), .int .u8 (d3 : Int), .int .u8 (d4 : Int), Value.int .u8 0, Value.int .u8 0, Value.int .u8 0, Value.int .u8 17] 5)
        have RL := Lib.hid (show Rd (Y6x3.alloc (.cells #[.int .u8 (d1 : Int), .int .u8 (d2 : Int), .int .u8 (d3 : Int), .int .u8 (d4 : Int), Value.int .u8 0, Value.int .u8 0, Value.int .u8 0, Value.int .u8 17] 5)) (.slice (some ⟨Y6x3.heap.size, 0, none⟩) 8 8) (nus .u8 [d1, d2, d3, d4, 0, 0, 0, 17]) from rd_lit Y6x3 .u8 5 [d1, d2, d3, d4, 0, 0, 0, 17] 8 (0, 0) rfl (by simp [maxLen]))
        replace O := Lib.hid (row_under O.out hal)
        replace L := Lib.hid (L.out.trans (hal.mono L.out.size))
        clear hal
        go_wp2_with ((at_builtin; refine wpList_app rfl (.tmp 44) (.tmp 57) rfl w.heap.size _ (m1 + m2) (bf ++ bd) rfl O.out (some ⟨Y6x3.heap.size, 0, none⟩) (8) (8) [d1, d2, d3, d4, 0, 0, 0, 17] rfl (RL.out) (by intro e; cases e) ?ap3b ?ap3c ?ap3d))
        case ap3b => omega
        case ap3c => first | exact L.out.size | (have q := L.out.size; simp only [World.size_alloc] at q; exact q)
        intro vx V5 oz gz
        replace L := Lib.hid (L.out.grown gz L.out.size (fun k e => by first | exact (O.out.lt k e).1 | (cases e; first | exact Nat.le_refl _ | omega)))
        have oz : V5.ownsRow w.heap.size 5 1 vx (m1 + m2 + 8) (nus .u8 (bf ++ bd ++ [d1, d2, d3, d4, 0, 0, 0, 17])) := by first | exact oz | simpa using oz
        replace O := Lib.hid oz
        obtain ⟨gr, kr, rfl, hkr, hkrm, hgr, hgru⟩ := own_at O.out (by omega)
        clear oz gz
        have e : bf ++ bd ++ [d1, d2, d3, d4, 0, 0, 0, 17] = ps := by rw [HX.out]; simp
        have O3 := O.out
        rw [e] at O3
        replace O := Lib.hid O3
        clear e O3 HX hc1
        go_wp2_with ((at_builtin; refine wpList_app rfl (.tmp 68) (.tmp 69) rfl w.heap.size _ (m1 + m2 + 8) ps rfl O.out (some ⟨b, off, none⟩) (n) (cap) zs rfl (HR.out.below L.out) (by intro e; cases e) ?ap4b ?ap4c ?ap4d))
        case ap4b => omega
        case ap4c => first | exact L.out.size | (have q := L.out.size; simp only [World.size_alloc] at q; exact q)
        intro vx V6 oz gz
        replace L := Lib.hid (L.out.grown gz L.out.size (fun k e => by first | exact (O.out.lt k e).1 | (cases e; first | exact Nat.le_refl _ | omega)))
        have oz : V6.ownsRow w.heap.size 5 1 vx (m1 + m2 + 8 + n) (nus .u8 (ps ++ zs)) := by first | exact oz | simpa using oz
        replace O := Lib.hid oz
        obtain ⟨gs, ks, rfl, hks, hksm, hgs, hgsu⟩ := own_at O.out (by omega)
        clear oz gz
        go_wp2_with fail
        refine (CSM.out _ _ (Rd.own O.out)).mono ?_
        rintro e wz ⟨rfl, rfl⟩
        cases dq with
        | true =>
          have e := of_decide_eq_true HDQ.out
          subst e
          go_wp2
          go_ret
          exact ⟨rfl, L.out⟩
        | false =>
          have e := of_decide_eq_false HDQ.out
          have ge : ((gt : Int) == 65535) = false := by rw [beq_eq_false_iff_ne]; omega
          clear e
          go_wp2
          go_ret
          exact ⟨rfl, L.out⟩
      | false =>
        have hal := (Below.refl Y6x3.heap.size Y6x3).alloc (Nat.le_refl _) (.cells #[Value.int .u8 0, Value.int .u8 17, .int .u8 (d3 : Int), .int .u8 (d4 : Int)] 5)
        have RL := Lib.hid (show Rd (Y6x3.alloc (.cells #[Value.int .u8 0, Value.int .u8 17, .int .u8 (d3 : Int), .int .u8 (d4 : Int)] 5)) (.slice (some ⟨Y6x3.heap.size, 0, none⟩) 4 4) (nus .u8 [0, 17, d3, d4]) from rd_lit Y6x3 .u8 5 [0, 17, d3, d4] 4 (0, 0) rfl (by simp [maxLen]))
        replace O := Lib.hid (row_under O.out hal)
        replace L := Lib.hid (L.out.trans (hal.mono L.out.size))
        clear hal
        go_wp2_with ((at_builtin; refine wpList_app rfl (.tmp 59) (.tmp 66) rfl w.heap.size _ (m1 + m2) (bf ++ bd) rfl O.out (some ⟨Y6x3.heap.size, 0, none⟩) (4) (4) [0, 17, d3, d4] rfl (RL.out) (by intro e; cases e) ?ap5b ?ap5c ?ap5d))
        case ap5b => omega
        case ap5c => first | exact L.out.size | (have q := L.out.size; simp only [World.size_alloc] at q; exact q)
        intro vx V5 oz gz
        replace L := Lib.hid (L.out.grown gz L.out.size (fun k e => by first | exact (O.out.lt k e).1 | (cases e; first | exact Nat.le_refl _ | omega)))
        have oz : V5.ownsRow w.heap.size 5 1 vx (m1 + m2 + 4) (nus .u8 (bf ++ bd ++ [0, 17, d3, d4])) := by first | exact oz | simpa using oz
        replace O := Lib.hid oz
        obtain ⟨gr, kr, rfl, hkr, hkrm, hgr, hgru⟩ := own_at O.out (by omega)
        clear oz gz
        have e : bf ++ bd ++ [0, 17, d3, d4] = ps := by rw [HX.out]; simp
        have O3 := O.out
        rw [e] at O3
        replace O := Lib.hid O3
        clear e O3 HX hc1
        go_wp2_with ((at_builtin; refine wpList_app rfl (.tmp 68) (.tmp 69) rfl w.heap.size _ (m1 + m2 + 4) ps rfl O.out (some ⟨b, off, none⟩) (n) (cap) zs rfl (HR.out.below L.out) (by intro e; cases e) ?ap6b ?ap6c ?ap6d))
        case ap6b => omega
        case ap6c => first | exact L.out.size | (have q := L.out.size; simp only [World.size_alloc] at q; exact q)
        intro vx V6 oz gz
        replace L := Lib.hid (L.out.grown gz L.out.size (fun k e => by first | exact (O.out.lt k e).1 | (cases e; first | exact Nat.le_refl _ | omega)))
        have oz : V6.ownsRow w.heap.size 5 1 vx (m1 + m2 + 4 + n) (nus .u8 (ps ++ zs)) := by first | exact oz | simpa using oz
        replace O := Lib.hid oz
        obtain ⟨gs, ks, rfl, hks, hksm, hgs, hgsu⟩ := own_at O.out (by omega)
        clear oz gz
        go_wp2_with fail
        refine (CSM.out _ _ (Rd.own O.out)).mono ?_
        rintro e wz ⟨rfl, rfl⟩
        cases dq with
        | true =>
          have e := of_decide_eq_true HDQ.out
          subst e
          go_wp2
          go_ret
          exact ⟨rfl, L.out⟩
        | false =>
          have e := of_decide_eq_false HDQ.out
          have ge : ((gt : Int) == 65535) = false := by rw [beq_eq_false_iff_ne]; omega
          clear e
          go_wp2
          go_ret
          exact ⟨rfl, L.out⟩
  · have g4 : ((p : Int) == 17) = false := by rw [beq_eq_false_iff_ne]; omega
    obtain rfl : wq = false := by rw [HW.out, decide_eq_false (by omega)]
    clear HW h17
    go_upto_region 6 with fail
    clear hc1 hc2 ge
    have hlow : V3.heap.size ≤ V3.heap.size := Nat.le_refl _
    have qK := K.out.size
    have qN1 := N1.out.lt
    have qN2 := N2.out.lt
    have qNS := NS.out.lt
    refine wp_region_held (S := (fun w' : World => Below (V3.heap.size) V3 w')) (by kernel_rfl) ?_
    change wpAnyH _ _ _ _ _ _ _ _ V3.drew
    have hy : Below V3.heap.size V3 V3.drew := (Below.refl _ _).drew
    have hE0 : Below (V3.heap.size) V3 V3.drew := (Below.refl _ _).drew
    clear hy
    generalize V3.drew = Y6x0 at hE0  ⊢
    have E0 := Lib.hid hE0
    clear hE0
    refine wpAnyH_take (i := 0) (oi := { dst := some 35, op := Op.load 26 (Operand.tmp 6), type := 26, pos := "frame.go:351", after := #[], guard := none }) (v := .agg c1) rfl (by kernel_rfl) (by kernel_rfl) (by kernel_rfl) (fun _ _ _ h => h) (Or.inl ⟨by rfl, ?_⟩) E0.out ?_
    · (intro w1 hS; have hW := hS; exact exec_load 26 (.tmp 6) rfl _ rfl _ (run_blk_load (P := Try.prog) 26 (w.heap.size) _ (N1.out.below hW (by omega)) Try.underlying26 rfl I1.out))
    simp only [Act.put, List.setIfInBounds_toArray, List.set_cons_zero, List.set_cons_succ]
    refine wpAnyH_take (i := 2) (oi := { dst := some 37, op := Op.load 26 (Operand.tmp 7), type := 26, pos := "frame.go:351", after := #[], guard := none }) (v := .agg c2) rfl (by kernel_rfl) (by kernel_rfl) (by kernel_rfl) (fun _ _ _ h => h) (Or.inl ⟨by rfl, ?_⟩) E0.out ?_
    · (intro w1 hS; have hW := hS; exact exec_load 26 (.tmp 7) rfl _ rfl _ (run_blk_load (P := Try.prog) 26 (w.heap.size + 1) _ (N2.out.below hW (by omega)) Try.underlying26 rfl I2.out))
    simp only [Act.put, List.setIfInBounds_toArray, List.set_cons_zero, List.set_cons_succ]
    refine wpAnyH_ready (rs := [1]) (by kernel_rfl) (by simp) ?_
    refine AllReadyH.cons (o := { dst := some 36, op := Op.call { callee := Callee.value (Operand.func 32), args := #[Operand.tmp 35], argTypes := #[26] }, type := 22, pos := "frame.go:351", after := #[{ on := 0, ground := Ground.data }], guard := none }) rfl (fun KK hK => ?_) AllReadyH.nil
    go_simp
    refine (CB1.out Y6x0).mono ?_
    rintro e Y6x1 ⟨z1, rfl, hz1, hy⟩
    have E1 := Lib.hid (E0.out.trans (hy.mono (Nat.le_trans hlow E0.out.size)))
    have C1 := Lib.hid E1.out
    have Z1 := Lib.hid (own_low E0.out.size hz1)
    clear hz1
    clear hy E0
    refine hK.out _ _ C1.out (fun _ => ?_)
    clear hK KK
    clear C1
    try simp only [Act.put, List.setIfInBounds_toArray, List.set_cons_zero, List.set_cons_succ]
    obtain ⟨g1, k1, rfl, -, -, hg1, -⟩ := own_at Z1.out (by omega)
    refine wpAnyH_ready (rs := [3]) (by kernel_rfl) (by simp) ?_
    refine AllReadyH.cons (o := { dst := some 38, op := Op.call { callee := Callee.value (Operand.func 32), args := #[Operand.tmp 37], argTypes := #[26] }, type := 22, pos := "frame.go:351", after := #[{ on := 2, ground := Ground.data }, { on := 1, ground := Ground.chain }], guard := none }) rfl (fun KK hK => ?_) AllReadyH.nil
    go_simp
    refine (CB2.out Y6x1).mono ?_
    rintro e Y6x2 ⟨z2, rfl, hz2, hy⟩
    replace Z1 := Lib.hid (row_under Z1.out hy)
    have E2 := Lib.hid (E1.out.trans (hy.mono (Nat.le_trans hlow E1.out.size)))
    have C2 := Lib.hid E2.out
    have Z2 := Lib.hid (hz2)
    clear hz2
    clear hy E1
    refine hK.out _ _ C2.out (fun _ => ?_)
    clear hK KK
    clear C2
    try simp only [Act.put, List.setIfInBounds_toArray, List.set_cons_zero, List.set_cons_succ]
    obtain ⟨g2, k2, rfl, -, -, -, -⟩ := own_at Z2.out (by omega)
    refine wpAnyH_ready (rs := [4]) (by kernel_rfl) (by simp) ?_
    refine AllReadyH.cons (o := { dst := some 39, op := Op.call { callee := Callee.builtin Builtin.append, args := #[Operand.tmp 36, Operand.tmp 38], argTypes := #[22, 22] }, type := 22, pos := "frame.go:351", after := #[{ on := 1, ground := Ground.data }, { on := 3, ground := Ground.data }, { on := 3, ground := Ground.chain }], guard := none }) rfl (fun KK hK => ?_) AllReadyH.nil
    rw [if_pos (by rfl)]
    refine wp_app (.tmp 36) (.tmp 38) rfl (V3.heap.size) (.slice (some ⟨g1, 0, none⟩) m1 k1) m1 bf rfl Z1.out (some ⟨g2, 0, none⟩) (m2) (k2) bd rfl (Rd.own Z2.out) (by intro e; cases e) (by omega) (Nat.le_trans hlow E2.out.size) ?_
    intro vx Y6x3 oz gz
    clear Z2
    replace Z1 := Lib.hid oz
    clear oz
    have E3 := Lib.hid (E2.out.grown gz (Nat.le_trans hlow E2.out.size) (fun k e => by cases e; first | exact Nat.le_refl _ | omega))
    obtain ⟨g3, k3, rfl, hk3, hk3m, hg3, hg3u⟩ := own_at Z1.out (by omega)
    clear gz E2
    refine hK.out _ _ E3.out (fun _ => ?_)
    clear hK KK
    try simp only [Act.put, List.setIfInBounds_toArray, List.set_cons_zero, List.set_cons_succ]
    refine wpAnyH_take (i := 5) (oi := { dst := some 11, op := Op.assign (Operand.tmp 39), type := 22, pos := "frame.go:351", after := #[{ on := 4, ground := Ground.data }, { on := 4, ground := Ground.chain }, { on := 0, ground := Ground.phase }, { on := 1, ground := Ground.phase }, { on := 2, ground := Ground.phase }, { on := 3, ground := Ground.phase }, { on := 4, ground := Ground.phase }], guard := none }) (v := ?_) rfl (by kernel_rfl) (by kernel_rfl) (by kernel_rfl) (fun _ _ _ h => h) (Or.inl ⟨by rfl, ?_⟩) E3.out ?_
    rotate_left
    · (intro w1 hS; go_simp; try with_reducible rfl)
    simp only [Act.put, List.setIfInBounds_toArray, List.set_cons_zero, List.set_cons_succ]
    refine wpAnyH_done (by kernel_rfl) ?_ _
    replace K := Lib.hid (K.out.trans (E3.out.mono (by omega)))
    replace N1 := Lib.hid (N1.out.below E3.out (by omega))
    replace N2 := Lib.hid (N2.out.below E3.out (by omega))
    replace NS := Lib.hid (NS.out.below E3.out (by omega))
    clear E3
    have O := Lib.hid (own_low qK Z1.out)
    have L := Lib.hid K.out
    clear K Z1 N2 NS
    have hc1 := (N1.out.cell 0).trans E1.out
    clear N1
    cases v1 with
    | true =>
      have hal := (Below.refl Y6x3.heap.size Y6x3).alloc (Nat.le_refl _) (.cells #[.int .u8 (d1 : Int), .int .u8 (d2 : Int), .int .u8 (d3 : Int), .int .u8 (d4 : Int), Value.int .u8 0, Value.int .u8 0, Value.int .u8 0, .int .u8 (p : Int)] 5)
      have RL := Lib.hid (show Rd (Y6x3.alloc (.cells #[.int .u8 (d1 : Int), .int .u8 (d2 : Int), .int .u8 (d3 : Int), .int .u8 (d4 : Int), Value.int .u8 0, Value.int .u8 0, Value.int .u8 0, .int .u8 (p : Int)] 5)) (.slice (some ⟨Y6x3.heap.size, 0, none⟩) 8 8) (nus .u8 [d1, d2, d3, d4, 0, 0, 0, p]) from rd_lit Y6x3 .u8 5 [d1, d2, d3, d4, 0, 0, 0, p] 8 (0, 0) rfl (by simp [maxLen]))
      replace O := Lib.hid (row_under O.out hal)
      replace L := Lib.hid (L.out.trans (hal.mono L.out.size))
      clear hal
      go_wp2_with ((at_builtin; refine wpList_app rfl (.tmp 44) (.tmp 57) rfl w.heap.size _ (m1 + m2) (bf ++ bd) rfl O.out (some ⟨Y6x3.heap.size, 0, none⟩) (8) (8) [d1, d2, d3, d4, 0, 0, 0, p] rfl (RL.out) (by intro e; cases e) ?ap7b ?ap7c ?ap7d))
      case ap7b => omega
      case ap7c => first | exact L.out.size | (have q := L.out.size; simp only [World.size_alloc] at q; exact q)
      intro vx V4 oz gz
      replace L := Lib.hid (L.out.grown gz L.out.size (fun k e => by first | exact (O.out.lt k e).1 | (cases e; first | exact Nat.le_refl _ | omega)))
      have oz : V4.ownsRow w.heap.size 5 1 vx (m1 + m2 + 8) (nus .u8 (bf ++ bd ++ [d1, d2, d3, d4, 0, 0, 0, p])) := by first | exact oz | simpa using oz
      replace O := Lib.hid oz
      obtain ⟨gr, kr, rfl, hkr, hkrm, hgr, hgru⟩ := own_at O.out (by omega)
      clear oz gz
      have e : bf ++ bd ++ [d1, d2, d3, d4, 0, 0, 0, p] = ps := by rw [HX.out]; simp
      have O3 := O.out
      rw [e] at O3
      replace O := Lib.hid O3
      clear e O3 HX hc1
      go_wp2_with ((at_builtin; refine wpList_app rfl (.tmp 68) (.tmp 69) rfl w.heap.size _ (m1 + m2 + 8) ps rfl O.out (some ⟨b, off, none⟩) (n) (cap) zs rfl (HR.out.below L.out) (by intro e; cases e) ?ap8b ?ap8c ?ap8d))
      case ap8b => omega
      case ap8c => first | exact L.out.size | (have q := L.out.size; simp only [World.size_alloc] at q; exact q)
      intro vx V5 oz gz
      replace L := Lib.hid (L.out.grown gz L.out.size (fun k e => by first | exact (O.out.lt k e).1 | (cases e; first | exact Nat.le_refl _ | omega)))
      have oz : V5.ownsRow w.heap.size 5 1 vx (m1 + m2 + 8 + n) (nus .u8 (ps ++ zs)) := by first | exact oz | simpa using oz
      replace O := Lib.hid oz
      obtain ⟨gs, ks, rfl, hks, hksm, hgs, hgsu⟩ := own_at O.out (by omega)
      clear oz gz
      go_wp2_with fail
      refine (CSM.out _ _ (Rd.own O.out)).mono ?_
      rintro e wz ⟨rfl, rfl⟩
      cases dq with
      | true =>
        have e := of_decide_eq_true HDQ.out
        subst e
        go_wp2
        go_ret
        exact ⟨rfl, L.out⟩
      | false =>
        have e := of_decide_eq_false HDQ.out
        have ge : ((gt : Int) == 65535) = false := by rw [beq_eq_false_iff_ne]; omega
        clear e
        go_wp2
        go_ret
        exact ⟨rfl, L.out⟩
    | false =>
      have hal := (Below.refl Y6x3.heap.size Y6x3).alloc (Nat.le_refl _) (.cells #[Value.int .u8 0, .int .u8 (p : Int), .int .u8 (d3 : Int), .int .u8 (d4 : Int)] 5)
      have RL := Lib.hid (show Rd (Y6x3.alloc (.cells #[Value.int .u8 0, .int .u8 (p : Int), .int .u8 (d3 : Int), .int .u8 (d4 : Int)] 5)) (.slice (some ⟨Y6x3.heap.size, 0, none⟩) 4 4) (nus .u8 [0, p, d3, d4]) from rd_lit Y6x3 .u8 5 [0, p, d3, d4] 4 (0, 0) rfl (by simp [maxLen]))
      replace O := Lib.hid (row_under O.out hal)
      replace L := Lib.hid (L.out.trans (hal.mono L.out.size))
      clear hal
      go_wp2_with ((at_builtin; refine wpList_app rfl (.tmp 59) (.tmp 66) rfl w.heap.size _ (m1 + m2) (bf ++ bd) rfl O.out (some ⟨Y6x3.heap.size, 0, none⟩) (4) (4) [0, p, d3, d4] rfl (RL.out) (by intro e; cases e) ?ap9b ?ap9c ?ap9d))
      case ap9b => omega
      case ap9c => first | exact L.out.size | (have q := L.out.size; simp only [World.size_alloc] at q; exact q)
      intro vx V4 oz gz
      replace L := Lib.hid (L.out.grown gz L.out.size (fun k e => by first | exact (O.out.lt k e).1 | (cases e; first | exact Nat.le_refl _ | omega)))
      have oz : V4.ownsRow w.heap.size 5 1 vx (m1 + m2 + 4) (nus .u8 (bf ++ bd ++ [0, p, d3, d4])) := by first | exact oz | simpa using oz
      replace O := Lib.hid oz
      obtain ⟨gr, kr, rfl, hkr, hkrm, hgr, hgru⟩ := own_at O.out (by omega)
      clear oz gz
      have e : bf ++ bd ++ [0, p, d3, d4] = ps := by rw [HX.out]; simp
      have O3 := O.out
      rw [e] at O3
      replace O := Lib.hid O3
      clear e O3 HX hc1
      go_wp2_with ((at_builtin; refine wpList_app rfl (.tmp 68) (.tmp 69) rfl w.heap.size _ (m1 + m2 + 4) ps rfl O.out (some ⟨b, off, none⟩) (n) (cap) zs rfl (HR.out.below L.out) (by intro e; cases e) ?ap10b ?ap10c ?ap10d))
      case ap10b => omega
      case ap10c => first | exact L.out.size | (have q := L.out.size; simp only [World.size_alloc] at q; exact q)
      intro vx V5 oz gz
      replace L := Lib.hid (L.out.grown gz L.out.size (fun k e => by first | exact (O.out.lt k e).1 | (cases e; first | exact Nat.le_refl _ | omega)))
      have oz : V5.ownsRow w.heap.size 5 1 vx (m1 + m2 + 4 + n) (nus .u8 (ps ++ zs)) := by first | exact oz | simpa using oz
      replace O := Lib.hid oz
      obtain ⟨gs, ks, rfl, hks, hksm, hgs, hgsu⟩ := own_at O.out (by omega)
      clear oz gz
      go_wp2_with fail
      refine (CSM.out _ _ (Rd.own O.out)).mono ?_
      rintro e wz ⟨rfl, rfl⟩
      cases dq with
      | true =>
        have e := of_decide_eq_true HDQ.out
        subst e
        go_wp2
        go_ret
        exact ⟨rfl, L.out⟩
      | false =>
        have e := of_decide_eq_false HDQ.out
        have ge : ((gt : Int) == 65535) = false := by rw [beq_eq_false_iff_ne]; omega
        clear e
        go_wp2
        go_ret
        exact ⟨rfl, L.out⟩

theorem rgood_any (p : Nat) (v : Value) (zs : List Nat) (v1 : Bool) (S : List Nat) (v2 : Bool) (D : List Nat) (w : World) (hr : Rd w v (nus .u8 zs)) (hb : ∀ c ∈ zs, c < 256) (hz : zs.length ≤ 3000) (hp : p < 256)
    (hS : S.length = 16) (hD : D.length = 16) (hbS : ∀ c ∈ S, c < 256) (hbD : ∀ c ∈ D, c < 256) :
    Calls Try.prog 28 #[.int .u8 (p : Int), v, adr v1 S, adr v2 D] w fun e w' => e = .returned (.bool (gd p zs v1 S v2 D)) ∧ Below w.heap.size w w' := by
  unfold gd
  by_cases h : fs p zs = 0 ∧ v1 = v2
  · rw [decide_eq_true h, Bool.true_and]
    obtain ⟨h1, rfl⟩ := h
    exact rgood_yes p v zs v1 S D w hr hb h1 hz hp hS hD hbS hbD
  · rw [decide_eq_false h, Bool.false_and]
    exact rgood_no p v zs v1 S v2 D w hr hb (by by_cases h1 : fs p zs = 0; exact .inr (fun e => h ⟨h1, e⟩); exact .inl h1)
end Go.Proofs.Ytopfbgoiehlhbaa

/- bazaarref1.SixMake. -/
namespace Go.Proofs.Ytopfbgoiehlhbaa
open Go.RowKit

set_option maxHeartbeats 1000000 in
theorem rmake_no (six1 six2 : Bool) (sb db : List Nat) (p : Int) (n : Int) (w : World) (h : mkOk six1 six2 n = false) :
    Calls Try.prog 35 #[adr six1 sb, adr six2 db, .int .u8 p, .int .i64 n] w fun e w' => e = .returned (.tuple #[.slice none 0 0, .bool false]) ∧ Below w.heap.size w w' := by
  unfold adr
  have e1 : (cellsA six1 sb)[0]? = some (.bool six1) := cellsA_head _ _
  have e2 : (cellsA six2 db)[0]? = some (.bool six2) := cellsA_head _ _
  generalize cellsA six1 sb = c1 at *
  generalize cellsA six2 db = c2 at *
  have B1 := (Below.refl w.heap.size w).alloc (Nat.le_refl _) (.cells c1 26)
  have HB := Lib.hid (B1.alloc B1.size (.cells c2 26))
  have hc1 := (((Blk.new w 26 c1).alloc (.cells c2 26)).cell 0).trans e1
  have hc2 := ((Blk.new (w.alloc (.cells c1 26)) 26 c2).cell 0).trans e2
  rw [World.size_alloc] at hc2
  unfold mkOk at h
  clear e1 e2 B1
  go_enter Try.func35, Try.ntmps35
  cases six1 with
  | false =>
    clear h
    go_wp2
    go_ret2
    exact ⟨rfl, HB.out⟩
  | true =>
    cases six2 with
    | false =>
      clear h
      go_wp2
      go_ret2
      exact ⟨rfl, HB.out⟩
    | true =>
      by_cases h0 : n < 0
      · clear h
        go_wp2
        go_ret2
        exact ⟨rfl, HB.out⟩
      · have h5 : 65535 < n := by
          rcases Int.lt_or_le 65535 n with h' | h'
          · exact h'
          · simp at h; omega
        clear h
        go_wp2
        go_ret2
        exact ⟨rfl, HB.out⟩

set_option maxRecDepth 100000 in
set_option maxHeartbeats 4000000 in
theorem rmake_yes (sb db : List Nat) (p n : Nat) (w : World) (hl1 : sb.length = 16) (hl2 : db.length = 16) (hn : n ≤ 65535) :
    Calls Try.prog 35 #[adr true sb, adr true db, .int .u8 (p : Int), .int .i64 (n : Int)] w fun e w' => ∃ x, e = .returned (.tuple #[x, .bool true]) ∧ w'.ownsRow w.heap.size 5 1 x 40 (nus .u8 (mk6 sb db p n)) ∧ Below w.heap.size w w' := by
  have CS := Lib.hid (fun w' => rbytes_own true sb hl1 w')
  have CD := Lib.hid (fun w' => rbytes_own true db hl2 w')
  unfold bytesA at CS CD
  rw [if_pos rfl, hl1] at CS
  rw [if_pos rfl, hl2] at CD
  unfold adr at CS CD ⊢
  have E1 := Lib.hid (show (cellsA true sb)[0]? = some (.bool true) from cellsA_head _ _)
  have E2 := Lib.hid (show (cellsA true db)[0]? = some (.bool true) from cellsA_head _ _)
  have z1 : (cellsA true sb).size = 17 := by rw [cellsA_size, hl1]
  have z2 : (cellsA true db).size = 17 := by rw [cellsA_size, hl2]
  have I1 := Lib.hid (i24.trans (congrArg some z1.symm))
  have I2 := Lib.hid (i24.trans (congrArg some z2.symm))
  obtain ⟨d1, hd1⟩ : ∃ d, d = n / 256 % 256 := ⟨_, rfl⟩
  obtain ⟨d2, hd2⟩ : ∃ d, d = n % 256 := ⟨_, rfl⟩
  have HM : Hid ([96, 0, 0, 0, d1, d2, p, 64] ++ sb ++ db = mk6 sb db p n) := by
    show _ = _
    rw [hd1, hd2]; simp [mk6, bg]
  have hw1 : IntKind.u8.wrap ((n : Int) / 256) = (d1 : Int) := by rw [IntKind.wrap_u8]; omega
  have hw2 : IntKind.u8.wrap (n : Int) = (d2 : Int) := by rw [IntKind.wrap_u8]; omega
  generalize mk6 sb db p n = M at *
  generalize cellsA true sb = c1 at *
  generalize cellsA true db = c2 at *
  have K := Lib.hid (Below.refl w.heap.size w)
  clear z1 z2 hl1 hl2 hd1 hd2
  go_enter Try.func35, Try.ntmps35
  have hal := (Below.refl w.heap.size w).alloc (Nat.le_refl _) (.cells c1 26)
  replace K := Lib.hid (K.out.trans (hal.mono K.out.size))
  have N1 := Lib.hid (Blk.new w 26 c1)
  clear hal
  have hal := (Below.refl (w.alloc (.cells c1 26)).heap.size (w.alloc (.cells c1 26))).alloc (Nat.le_refl _) (.cells c2 26)
  replace K := Lib.hid (K.out.trans (hal.mono K.out.size))
  replace N1 := Lib.hid (N1.out.below hal N1.out.lt)
  have N2q := Blk.new (w.alloc (.cells c1 26)) 26 c2
  simp only [World.size_alloc] at N2q
  have N2 := Lib.hid N2q
  clear N2q
  clear hal
  have hc1 := (N1.out.cell 0).trans E1.out
  have hc2 := (N2.out.cell 0).trans E2.out
  go_wp2_with fail
  have hzV1 : Hid (((w.alloc (.cells c1 26)).alloc (.cells c2 26)).heap.size = w.heap.size + 1 + 1) := by show _ = _; simp only [World.size_alloc]
  generalize ((w.alloc (.cells c1 26)).alloc (.cells c2 26)) = V1 at *
  clear hc1 hc2 E1 E2
  have O := Lib.hid (show (V1.alloc (.cells #[Value.int .u8 96, .int .u8 0, .int .u8 0, .int .u8 0, .int .u8 (d1 : Int), .int .u8 (d2 : Int), .int .u8 (p : Int), .int .u8 64] 5)).ownsRow V1.heap.size 5 1 (.slice (some ⟨V1.heap.size, 0, none⟩) 8 8) 8 (nus .u8 [96, 0, 0, 0, d1, d2, p, 64]) from own_lit V1 .u8 5 [96, 0, 0, 0, d1, d2, p, 64] 8 V1.heap.size rfl (by simp [maxLen]) (Nat.le_refl _))
  have q2 : w.heap.size + 1 < V1.heap.size := N2.out.lt
  have q1 : w.heap.size < V1.heap.size := by omega
  have hal := (Below.refl V1.heap.size V1).alloc (Nat.le_refl _) (.cells #[Value.int .u8 96, .int .u8 0, .int .u8 0, .int .u8 0, .int .u8 (d1 : Int), .int .u8 (d2 : Int), .int .u8 (p : Int), .int .u8 64] 5)
  have hbase := K.out.size
  replace K := Lib.hid (K.out.trans (hal.mono K.out.size))
  replace N1 := Lib.hid (N1.out.below hal N1.out.lt)
  replace N2 := Lib.hid (N2.out.below hal N2.out.lt)
  generalize V1.alloc (.cells #[Value.int .u8 96, .int .u8 0, .int .u8 0, .int .u8 0, .int .u8 (d1 : Int), .int .u8 (d2 : Int), .int .u8 (p : Int), .int .u8 64] 5) = V2 at *
  have hlow : V1.heap.size ≤ V2.heap.size := hal.size
  clear hal
  obtain ⟨g0, hg0⟩ : ∃ g, g = w.heap.size + 1 + 1 := ⟨_, rfl⟩
  rw [hzV1.out, ← hg0] at O hlow hbase q1 q2
  rw [← hg0]
  clear hg0
  refine wp_region_held (S := (fun w' : World => Below (g0) V2 w')) (by kernel_rfl) ?_
  change wpAnyH _ _ _ _ _ _ _ _ V2.drew
  have hy : Below V2.heap.size V2 V2.drew := (Below.refl _ _).drew
  have hE0 : Below (g0) V2 V2.drew := (Below.refl _ _).drew
  replace O := Lib.hid (row_under O.out hy)
  clear hy
  generalize V2.drew = Y4x0 at hE0 O ⊢
  have E0 := Lib.hid hE0
  clear hE0
  refine wpAnyH_take (i := 0) (oi := { dst := some 34, op := Op.move (Operand.tmp 10), type := 22, pos := "frame.go:278", after := #[], guard := none }) (v := ?_) rfl (by kernel_rfl) (by kernel_rfl) (by kernel_rfl) (fun _ _ _ h => h) (Or.inl ⟨by rfl, ?_⟩) E0.out ?_
  rotate_left
  · (intro w1 hS; go_simp; try with_reducible rfl)
  simp only [Act.put, List.setIfInBounds_toArray, List.set_cons_zero, List.set_cons_succ]
  refine wpAnyH_take (i := 1) (oi := { dst := some 35, op := Op.load 26 (Operand.tmp 4), type := 26, pos := "frame.go:278", after := #[], guard := none }) (v := .agg c1) rfl (by kernel_rfl) (by kernel_rfl) (by kernel_rfl) (fun _ _ _ h => h) (Or.inl ⟨by rfl, ?_⟩) E0.out ?_
  · (intro w1 hS; have hW := hS; exact exec_load 26 (.tmp 4) rfl _ rfl _ (run_blk_load (P := Try.prog) 26 (w.heap.size) _ (N1.out.below hW (by omega)) Try.underlying26 rfl I1.out))
  simp only [Act.put, List.setIfInBounds_toArray, List.set_cons_zero, List.set_cons_succ]
  refine wpAnyH_take (i := 4) (oi := { dst := some 38, op := Op.load 26 (Operand.tmp 5), type := 26, pos := "frame.go:278", after := #[], guard := none }) (v := .agg c2) rfl (by kernel_rfl) (by kernel_rfl) (by kernel_rfl) (fun _ _ _ h => h) (Or.inl ⟨by rfl, ?_⟩) E0.out ?_
  · (intro w1 hS; have hW := hS; exact exec_load 26 (.tmp 5) rfl _ rfl _ (run_blk_load (P := Try.prog) 26 (w.heap.size + 1) _ (N2.out.below hW (by omega)) Try.underlying26 rfl I2.out))
  simp only [Act.put, List.setIfInBounds_toArray, List.set_cons_zero, List.set_cons_succ]
  refine wpAnyH_ready (rs := [2]) (by kernel_rfl) (by simp) ?_
  refine AllReadyH.cons (o := { dst := some 36, op := Op.call { callee := Callee.value (Operand.func 32), args := #[Operand.tmp 35], argTypes := #[26] }, type := 22, pos := "frame.go:278", after := #[{ on := 1, ground := Ground.data }], guard := none }) rfl (fun K hK => ?_) AllReadyH.nil
  go_simp
  refine (CS.out Y4x0).mono ?_
  rintro e Y4x1 ⟨z, rfl, hz, hy⟩
  replace O := Lib.hid (row_under O.out hy)
  have E1 := Lib.hid (E0.out.trans (hy.mono (Nat.le_trans hlow E0.out.size)))
  have C1 := Lib.hid E1.out
  have Z := Lib.hid (hz)
  clear hz
  clear hy E0
  refine hK.out _ _ C1.out (fun _ => ?_)
  clear hK K
  clear C1
  try simp only [Act.put, List.setIfInBounds_toArray, List.set_cons_zero, List.set_cons_succ]
  obtain ⟨gz, cz, rfl, -, -, -, -⟩ := own_at Z.out (by omega)
  refine wpAnyH_ready (rs := [3]) (by kernel_rfl) (by simp) ?_
  refine AllReadyH.cons (o := { dst := some 37, op := Op.call { callee := Callee.builtin Builtin.append, args := #[Operand.tmp 34, Operand.tmp 36], argTypes := #[22, 22] }, type := 22, pos := "frame.go:278", after := #[{ on := 0, ground := Ground.data }, { on := 2, ground := Ground.data }, { on := 2, ground := Ground.chain }], guard := none }) rfl (fun K hK => ?_) AllReadyH.nil
  rw [if_pos (by rfl)]
  refine wp_app (.tmp 34) (.tmp 36) rfl (g0) (.slice (some ⟨g0, 0, none⟩) (8) 8) (8) [96, 0, 0, 0, d1, d2, p, 64] rfl O.out (some ⟨gz, 0, none⟩) (16) (cz) sb rfl (Rd.own Z.out) (by intro e; cases e) (by omega) (Nat.le_trans hlow E1.out.size) ?_
  intro vx Y4x2 oz gz
  clear Z
  replace O := Lib.hid oz
  clear oz
  have E2 := Lib.hid (E1.out.grown gz (Nat.le_trans hlow E1.out.size) (fun k e => by cases e; first | exact Nat.le_refl _ | omega))
  obtain ⟨g1, cz1, rfl, hcz1, hcz1m, hg1, hg1u⟩ := own_at O.out (by omega)
  clear gz E1
  refine hK.out _ _ E2.out (fun _ => ?_)
  clear hK K
  try simp only [Act.put, List.setIfInBounds_toArray, List.set_cons_zero, List.set_cons_succ]
  refine wpAnyH_ready (rs := [5]) (by kernel_rfl) (by simp) ?_
  refine AllReadyH.cons (o := { dst := some 39, op := Op.call { callee := Callee.value (Operand.func 32), args := #[Operand.tmp 38], argTypes := #[26] }, type := 22, pos := "frame.go:278", after := #[{ on := 4, ground := Ground.data }, { on := 3, ground := Ground.chain }], guard := none }) rfl (fun K hK => ?_) AllReadyH.nil
  go_simp
  refine (CD.out Y4x2).mono ?_
  rintro e Y4x3 ⟨z, rfl, hz, hy⟩
  replace O := Lib.hid (row_under O.out hy)
  have E3 := Lib.hid (E2.out.trans (hy.mono (Nat.le_trans hlow E2.out.size)))
  have C3 := Lib.hid E3.out
  have Z := Lib.hid (hz)
  clear hz
  clear hy E2
  refine hK.out _ _ C3.out (fun _ => ?_)
  clear hK K
  clear C3
  try simp only [Act.put, List.setIfInBounds_toArray, List.set_cons_zero, List.set_cons_succ]
  obtain ⟨gz, cz, rfl, -, -, -, -⟩ := own_at Z.out (by omega)
  refine wpAnyH_ready (rs := [6]) (by kernel_rfl) (by simp) ?_
  refine AllReadyH.cons (o := { dst := some 40, op := Op.call { callee := Callee.builtin Builtin.append, args := #[Operand.tmp 37, Operand.tmp 39], argTypes := #[22, 22] }, type := 22, pos := "frame.go:278", after := #[{ on := 3, ground := Ground.data }, { on := 5, ground := Ground.data }, { on := 5, ground := Ground.chain }], guard := none }) rfl (fun K hK => ?_) AllReadyH.nil
  rw [if_pos (by rfl)]
  refine wp_app (.tmp 37) (.tmp 39) rfl (g0) (.slice (some ⟨g1, 0, none⟩) (8 + 16) cz1) (8 + 16) ([96, 0, 0, 0, d1, d2, p, 64] ++ sb) rfl O.out (some ⟨gz, 0, none⟩) (16) (cz) db rfl (Rd.own Z.out) (by intro e; cases e) (by omega) (Nat.le_trans hlow E3.out.size) ?_
  intro vx Y4x4 oz gz
  clear Z
  replace O := Lib.hid oz
  clear oz
  have E4 := Lib.hid (E3.out.grown gz (Nat.le_trans hlow E3.out.size) (fun k e => by cases e; first | exact Nat.le_refl _ | omega))
  obtain ⟨g2, cz2, rfl, hcz2, hcz2m, hg2, hg2u⟩ := own_at O.out (by omega)
  clear gz E3
  refine hK.out _ _ E4.out (fun _ => ?_)
  clear hK K
  try simp only [Act.put, List.setIfInBounds_toArray, List.set_cons_zero, List.set_cons_succ]
  refine wpAnyH_take (i := 7) (oi := { dst := some 8, op := Op.assign (Operand.tmp 40), type := 22, pos := "frame.go:278", after := #[{ on := 6, ground := Ground.data }, { on := 6, ground := Ground.chain }, { on := 0, ground := Ground.phase }, { on := 1, ground := Ground.phase }, { on := 2, ground := Ground.phase }, { on := 3, ground := Ground.phase }, { on := 4, ground := Ground.phase }, { on := 5, ground := Ground.phase }, { on := 6, ground := Ground.phase }], guard := none }) (v := ?_) rfl (by kernel_rfl) (by kernel_rfl) (by kernel_rfl) (fun _ _ _ h => h) (Or.inl ⟨by rfl, ?_⟩) E4.out ?_
  rotate_left
  · (intro w1 hS; go_simp; try with_reducible rfl)
  simp only [Act.put, List.setIfInBounds_toArray, List.set_cons_zero, List.set_cons_succ]
  refine wpAnyH_take (i := 8) (oi := { dst := some 9, op := Op.assign (Operand.const (Value.bool true)), type := 4, pos := "frame.go:278", after := #[{ on := 7, ground := Ground.chain }, { on := 0, ground := Ground.phase }, { on := 1, ground := Ground.phase }, { on := 2, ground := Ground.phase }, { on := 3, ground := Ground.phase }, { on := 4, ground := Ground.phase }, { on := 5, ground := Ground.phase }, { on := 6, ground := Ground.phase }, { on := 7, ground := Ground.phase }], guard := none }) (v := ?_) rfl (by kernel_rfl) (by kernel_rfl) (by kernel_rfl) (fun _ _ _ h => h) (Or.inl ⟨by rfl, ?_⟩) E4.out ?_
  rotate_left
  · (intro w1 hS; go_simp; try with_reducible rfl)
  simp only [Act.put, List.setIfInBounds_toArray, List.set_cons_zero, List.set_cons_succ]
  refine wpAnyH_done (by kernel_rfl) ?_ _
  replace K := Lib.hid (K.out.trans (E4.out.mono (by omega)))
  replace N1 := Lib.hid (N1.out.below E4.out (by omega))
  replace N2 := Lib.hid (N2.out.below E4.out (by omega))
  clear E4
  rw [HM.out] at O
  go_wp2
  go_ret2
  exact ⟨_, rfl, own_low hbase O.out, K.out⟩
theorem rmake_any (six1 six2 : Bool) (sb db : List Nat) (p : Nat) (n : Int) (w : World) (hl1 : sb.length = 16) (hl2 : db.length = 16) :
    Calls Try.prog 35 #[adr six1 sb, adr six2 db, .int .u8 (p : Int), .int .i64 n] w fun e w' => ∃ x, e = .returned (.tuple #[x, .bool (mkOk six1 six2 n)]) ∧ Rd w' x (nus .u8 (mOut six1 six2 sb db p n)) ∧ Below w.heap.size w w' := by
  unfold mOut
  by_cases h : mkOk six1 six2 n = true
  · have h' := h
    unfold mkOk at h'
    obtain ⟨rfl, rfl, h0, h1⟩ : six1 = true ∧ six2 = true ∧ 0 ≤ n ∧ n ≤ 65535 := by simpa [and_assoc] using h'
    obtain ⟨k, rfl⟩ := Int.eq_ofNat_of_zero_le h0
    rw [if_pos h, h]
    exact (rmake_yes sb db p k w hl1 hl2 (by omega)).mono fun _ _ ⟨x, e, o, b⟩ => ⟨x, e, Rd.own o, b⟩
  · rw [if_neg h, Bool.eq_false_iff.2 h]
    exact (rmake_no six1 six2 sb db p n w (Bool.eq_false_iff.2 h)).mono fun _ _ ⟨e, b⟩ => ⟨_, e, rd_nil _ _, b⟩
end Go.Proofs.Ytopfbgoiehlhbaa

