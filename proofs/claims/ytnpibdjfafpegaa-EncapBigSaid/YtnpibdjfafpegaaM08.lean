/- Texts that the walks of this seat lean on, put together. -/
import Derived.Handy
import Derived.Test.YtnpibdjfafpegaaTk
import Derived.Test.YtnpibdjfafpegaaM04
import Derived.Test.YtnpibdjfafpegaaM06
import Derived.Test.YtnpibdjfafpegaaM07
namespace Go.Proofs.Ytnpibdjfafpegaa
open Go.RowKit Go.Shelf
theorem low16 (x : Nat) (h : x < 18446744073709551616) : bits .and .u64 (x : Int) 65535 = ((x % 65536 : Nat) : Int) := by
  rw [show (65535 : Int) = ((65535 : Nat) : Int) from rfl, Go.bits_and_u64_nat _ _ h (by omega), show 65535 = 2 ^ 16 - 1 from rfl, Nat.and_two_pow_sub_one_eq_mod]
theorem go_on (x : Nat) (h : x < 18446744073709551616) : IntKind.u64.wrap ((x : Int) / 65536 + bits .and .u64 (x : Int) 65535) = ((x / 65536 + x % 65536 : Nat) : Int) := by
  rw [low16 x h, IntKind.wrap_u64]; omega
set_option maxHeartbeats 400000 in
theorem rnd_any (u : Nat) (w : World) (h : u < 18446744073709551616) :
    Calls Try.prog 75 #[.int .u64 (u : Int)] w fun e w' => e = .returned (.int .u16 (gr u : Nat)) ∧ w = w' := by
  go_enter Try.func75, Try.ntmps75
  go_wp2
  go_loop [0] (fun v => ∃ x : Nat, gr x = gr u ∧ x < 18446744073709551616 ∧ v = .int .u64 x) (fun v => (intOf v).toNat)
  case atStart => exact ⟨u, rfl, h, rfl⟩
  case round =>
    obtain ⟨x, hg, hx, rfl⟩ := hrel
    have HG := Lib.hid hg
    clear hg
    by_cases hlt : 65535 < x
    · have hst := Lib.hid (gr_step x hlt)
      have ho := Lib.hid (go_on x hx)
      go_wp2
      go_round
      case rel => exact ⟨x / 65536 + x % 65536, by rw [hst.out, HG.out], by omega, by rw [ho.out]⟩
      case measure => rw [ho.out]; simp [intOf]; omega
    · have hfin := Lib.hid (gr_lt u x HG.out (by omega))
      go_wp2
      go_ret
      exact ⟨by rw [← hfin.out]; rfl, rfl⟩
theorem not16 (o : Nat) (h : o < 65536) : bits BinOp.xor IntKind.u16 IntKind.u16.max (o : Int) = ((65535 - o : Nat) : Int) := by
  rw [show IntKind.u16.max = ((65535 : Nat) : Int) from rfl, u16_xor_nat _ _ (by omega) h]
  congr 1
  apply Nat.eq_of_testBit_eq
  intro i
  rw [show 65535 - o = 2 ^ 16 - (o + 1) from by omega, Nat.testBit_two_pow_sub_succ (by omega), Nat.testBit_xor, show (65535 : Nat) = 2 ^ 16 - 1 from rfl, Nat.testBit_two_pow_sub_one]
  by_cases hi : i < 16
  · simp [hi]
  · have : o.testBit i = false := Nat.testBit_lt_two_pow (Nat.lt_of_lt_of_le h (Nat.pow_le_pow_right (n := 2) (by decide) (show 16 ≤ i by omega)))
    simp [hi, this]
end Go.Proofs.Ytnpibdjfafpegaa
namespace Go.Proofs.Ytnpibdjfafpegaa
open Go.RowKit Go.Shelf
attribute [local go_sem] Oper.semAt_some
def nw (zs : List Nat) : Nat := (zs.length + 1) / 2
theorem even_two (zs : List Nat) : (even zs).length = 2 * nw zs := by rw [even_length]; unfold nw; omega
theorem even_lt (zs : List Nat) (h : ∀ c ∈ zs, c < 256) : ∀ c ∈ even zs, c < 256 := by
  intro c hc
  rcases List.mem_append.1 hc with hc | hc
  · exact h c hc
  · have := (List.mem_replicate.1 hc).2; omega
def tot (l : List (Nat × Nat)) : Nat := (l.map Prod.snd).sum
def SumI (b : Nat) (start : Nat) (w0 : World) (l : List (Nat × Nat)) (W : World) : Prop :=
  Boxed W b 79 (.int .u64 (IntKind.u64.wrap ((start : Int) + (tot l : Int)))) ∧ b + 1 ≤ W.heap.size ∧ Below b w0 W
theorem SumI.own (b B : Nat) (start : Nat) (w0 : World) (h : b ≤ w0.heap.size) (hB : b ≤ B) : OwnFrom B (SumI b start w0) :=
  OwnFrom.and (Own.from (boxed_own b 79 (fun l => .int .u64 (IntKind.u64.wrap ((start : Int) + (tot l : Int))))) _) (OwnFrom.and (fun _ _ _ _ hs hg _ => Nat.le_trans hs hg.size) (ownFrom_below h hB))
theorem tot_snoc (l : List (Nat × Nat)) (x : Nat × Nat) : tot (l ++ [x]) = tot l + x.2 := by simp [tot]
theorem tot_upto (zs : List Nat) : ∀ k, k ≤ nw zs → tot (upto (wd (even zs)) k) = wsp 0 ((even zs).take (2 * k))
  | 0, _ => by simp [tot, upto, wsp]
  | k + 1, h => by
    have he := even_two zs
    rw [upto_succ, tot_snoc, tot_upto zs k (by omega), wsp_two _ _ (by omega)]
    unfold wd w2
    rw [be_two _ _ (by omega)]
theorem wsp_even (zs : List Nat) : wsp 0 (even zs) = wsp 0 zs := by unfold even; rw [wsp_append, wsp_zeros]; omega
theorem tot_all (zs : List Nat) : tot (upto (wd (even zs)) (nw zs)) = wsp 0 zs := by
  rw [tot_upto zs _ (Nat.le_refl _), List.take_of_length_le (by rw [even_two]; exact Nat.le_refl _), wsp_even]
theorem start_wrap (start : Nat) (h : start < 4294967296) : IntKind.u64.wrap ((start : Int) + (tot [] : Int)) = (start : Int) := by
  rw [IntKind.wrap_u64]; simp [tot]; omega
theorem tot_wrap (s t x : Nat) : IntKind.u64.wrap (IntKind.u64.wrap ((s : Int) + (t : Int)) + IntKind.u64.wrap (x : Int)) = IntKind.u64.wrap ((s : Int) + ((t + x : Nat) : Int)) := by
  simp only [IntKind.wrap_u64]; omega
theorem sum_wrap (s t : Nat) (h : s < 4294967296) (h2 : t < 18446744069414584320) : IntKind.u64.wrap ((s : Int) + (t : Int)) = ((s + t : Nat) : Int) := by
  rw [IntKind.wrap_u64]; omega
theorem sum_small (zs : List Nat) (hz : zs.length ≤ 140737488351232) (hb : ∀ c ∈ zs, c < 256) : wsp 0 zs < 18446744069414584320 := by
  have := wsp_le zs 0 hb; omega
theorem mid_set {lo hi : Nat} (A : World) (k : Nat) (v : Value) (h : k < lo) : Mid lo hi A (A.setCell ⟨k, 0, none⟩ v) :=
  ⟨by simp [World.setCell], fun j h1 _ => Below.heap_setCell A ⟨k, 0, none⟩ v j (show j ≠ k by omega)⟩
set_option maxRecDepth 100000 in
set_option maxHeartbeats 2000000 in
theorem sum_any (va : Value) (zs : List Nat) (start : Nat) (w : World) (hr : Rd w va (nus .u8 zs)) (hz : zs.length ≤ 140737488351232) (hb : ∀ c ∈ zs, c < 256) (hs : start < 4294967296) :
    Calls Try.prog 65 #[va, .int .u32 (start : Int)] w fun e w' => e = .returned (.int .u16 (gr (start + wsp 0 zs) : Nat)) ∧ Below w.heap.size w w' := by
  refine (callsIn_wide (n := 3)).1 ?_
  refine callsIn_of_wp_marks Try.func65 rfl trivial ?_ rfl
  simp only [Try.ntmps65, List.size_toArray, List.length_cons, List.length_nil, Nat.reduceAdd, Nat.reduceSub, Array.replicate_succ, Array.replicate_zero, List.push_toArray, List.append_toArray, List.nil_append, List.cons_append]
  have hb3 : Below w.heap.size w (w.alloc (.cells #[.int .u64 (start : Int)] 79)) := (Below.refl _ w).alloc (Nat.le_refl _) _
  have x1 := Boxed.new w 79 (.int .u64 (start : Int))
  gi_wp2_with fail
  refine ⟨trivial, ?_⟩
  generalize hW : w.alloc (.cells #[.int .u64 (start : Int)] 79) = W at hb3 x1 ⊢
  have hWs : W.heap.size = w.heap.size + 1 := by rw [← hW]; simp
  clear hW
  refine (callsIn_wide.2 (words_any va zs W (hr.below hb3) hz)).mono ?_
  rintro e W0 ⟨Be, g, rfl, h1, h2, h3, h4, h5⟩
  gi_wp2_with fail
  have hLE := even_two zs
  have hEb := even_lt zs hb
  have hz2 : (even zs).length ≤ 140737488355328 := by rw [even_length]; omega
  have hW0 := h5.size
  have hgs : g < W0.heap.size := (Array.getElem?_eq_some_iff.1 h4).1
  have hBs := h3.lt
  have hwW0 : Below w.heap.size w W0 := hb3.trans (h5.mono (by omega))
  have g0 : SumI w.heap.size start w [] W0 := ⟨((h5.block _ (by omega)).trans x1).trans (by rw [start_wrap start hs]), by omega, hwW0⟩
  refine wpIn_rangeFunc_ownG rfl (by omega) (gf := 76) (lb := #[.pointer (some ⟨Be, 0, none⟩)]) rfl trivial (enters_of Try.func76 (by kernel_rfl) rfl)
    (it_stops 2 (by omega) Be g W.heap.size W0.heap.size (nw zs) (even zs) hLE hEb hz2 h1 hBs h2 hgs W0 (Nat.le_refl _) h3 h4) mid_t (mid_b (Nat.le_refl _)) (Below.refl _ _) (fun _ => rfl)
    (SumI w.heap.size start w)
    (fun _ _ _ => False)
    (SumI.own _ _ _ _ (Nat.le_refl _) (by omega))
    (fun c s A B row hs hg hr => hs)
    g0
    (fun x => { tmps := #[va, .int .u32 (start : Int), undef, undef, .int .u16 0, .pointer (some ⟨w.heap.size, 0, none⟩), undef, .int .u16 (x.2 : Int), .int .u32 (start : Int), .int .u64 (start : Int), va, .func (.func 76) #[] #[.pointer (some ⟨Be, 0, none⟩)], .int .i64 (x.1 : Int), .int .u16 (x.2 : Int), undef, undef, undef, undef, undef, undef], defers := [] }) ?assign ?body ?done ?stop
  case assign =>
    intro l x W' K hK
    gi_wp2
    exact hK
  case body =>
    rintro l pre x W' hG hlt
    obtain ⟨bx, hsz, hB⟩ := hG
    have c1 := bx.cell
    have cf := bx.frozen
    clear hr hz hb hs hb3 x1 h1 h2 h3 h4 h5 hLE hEb hz2 hgs hBs hwW0 g0
    gi_wp2
    have htw := Lib.hid (tot_wrap start (tot pre) x.2)
    refine ⟨KeepsOthers.from (KeepsOthers.setCell _ _ _) _, mid_set _ _ _ (by omega), ?_, ?_, hB.setCell (Nat.le_refl _) _⟩
    · refine (bx.set _).trans ?_
      rw [htw.out, tot_snoc]
    · simpa using hsz
  case done =>
    rintro D ys Wn hD hys ⟨bx, hsz, hB⟩ hK
    have hv : IntKind.u64.wrap ((start : Int) + (tot ys : Int)) = ((start + wsp 0 zs : Nat) : Int) := by
      rw [hys, tot_all, sum_wrap _ _ hs (sum_small zs hz hb)]
    have hlt : start + wsp 0 zs < 18446744073709551616 := by have := sum_small zs hz hb; omega
    rw [hv] at bx
    obtain ⟨u, hu⟩ : ∃ u, u = start + wsp 0 zs := ⟨_, rfl⟩
    rw [← hu] at bx hlt
    have HU := Lib.hid hu
    have c1 := bx.cell
    clear hu hv hys hr hz hb hs hb3 x1 h1 h2 h3 h4 h5 hLE hEb hz2 hgs hBs hwW0 g0
    gi_wp2_with fail
    refine ⟨trivial, ?_⟩
    refine (callsIn_wide.2 (rnd_any u _ hlt)).mono ?_
    rintro e w' ⟨rfl, rfl⟩
    gi_wp2
    refine ⟨by simp, .inl ⟨_, _, rfl, run_takeDeferred hK, ?_⟩⟩
    refine ⟨.int .u16 ((gr u : Nat) : Int), by simp [results, Try.f65, go_sem], ?_, hB.trans (belowK_b (w := w) (Nat.le_refl _) _ D _ _ (by omega) hK rfl rfl)⟩
    rw [HU.out]
  case stop => 
    rintro D c l Wn hD hk h
    exact h.elim
theorem not_gr (u : Nat) : bits BinOp.xor IntKind.u16 IntKind.u16.max ((gr u : Nat) : Int) = ((65535 - gr u : Nat) : Int) := not16 _ (by have := gr_le u; omega)
end Go.Proofs.Ytnpibdjfafpegaa
namespace Go.Proofs.Ytnpibdjfafpegaa
open Go.RowKit
set_option maxRecDepth 100000 in
set_option maxHeartbeats 1000000 in
theorem rsum_any (va : Value) (zs : List Nat) (start : Nat) (w : World) (hr : Rd w va (nus .u8 zs)) (hz : zs.length ≤ 2000) (hb : ∀ c ∈ zs, c < 256) (hs : start < 4294967296) :
    Calls Try.prog 23 #[va, .int .u32 (start : Int)] w fun e w' => e = .returned (.int .i64 (gr (start + wsp 0 zs) : Nat)) ∧ w = w' := by
  have HR := Lib.hid hr
  obtain ⟨a, cap, rfl, h1, h2, -⟩ := hr
  rw [nus_length] at h1 HR ⊢
  unfold maxLen at h2
  obtain ⟨len, hl⟩ : ∃ n, n = zs.length := ⟨_, rfl⟩
  rw [← hl] at h1 hz HR ⊢
  have HL := Lib.hid hl
  have HB := Lib.hid hb
  clear hl hb
  go_enter Try.func23, Try.ntmps23
  go_wp2
  go_loop [5, 6] (fun u i => ∃ j p s : Nat, p = 2 * j ∧ p ≤ len + 1 ∧ i = .int .i64 (p : Int) ∧ s = start + wsp 0 (zs.take p) ∧ u = .int .u64 (s : Int)) (fun _ i => len + 1 - (intOf i).toNat)
  case atStart => exact ⟨0, 0, start, rfl, by omega, rfl, by simp [wsp], rfl⟩
  case round =>
    obtain ⟨j, p, s, hp, hpl, rfl, hse, rfl⟩ := hrel
    have hsl : s < 4425600000 := by
      have := wsp_take_lt zs p HB.out
      rw [← HL.out] at this
      omega
    have HS := Lib.hid hse
    have HP := Lib.hid hp
    clear hse hp
    by_cases hlt : p < len
    · obtain ⟨b, o, rfl, hc⟩ := HR.out.cells (by omega)
      have c0 := hc p hlt
      have hx := getD_lt zs HB.out p
      have hw := wsp_two zs j (by rw [← HP.out, ← HL.out]; exact hlt)
      rw [show 2 * (j + 1) = p + 2 from by rw [HP.out]; omega, ← HP.out] at hw
      unfold w2 at hw
      rw [← HP.out] at hw
      have HW := Lib.hid hw
      obtain ⟨x, hxe⟩ : ∃ x, x = zs.getD p 0 := ⟨_, rfl⟩
      rw [← hxe] at c0 hx
      have HX := Lib.hid hxe
      have HC := Lib.hid hc
      clear hw hxe hc
      by_cases hlt2 : p + 1 < len
      · have c1 := HC.out (p + 1) hlt2
        have hy := getD_lt zs HB.out (p + 1)
        obtain ⟨y, hye⟩ : ∃ y, y = zs.getD (p + 1) 0 := ⟨_, rfl⟩
        rw [← hye] at c1 hy
        have HY := Lib.hid hye
        clear hye
        go_wp2
        go_round
        case rel => exact ⟨j + 1, p + 2, s + x * 256 + y, by have := HP.out; omega, by omega, by go_num, by have := HS.out; have := HX.out; have := HY.out; rw [HW.out, ← HX.out, ← HY.out]; omega, by go_num⟩
        case measure => simp [intOf]; omega
      · have hy : zs.getD (p + 1) 0 = 0 := by rw [List.getD_eq_getElem?_getD, List.getElem?_eq_none (by rw [← HL.out]; omega)]; rfl
        have HY := Lib.hid hy
        clear hy
        go_wp2
        go_round
        case rel => exact ⟨j + 1, p + 2, s + x * 256, by have := HP.out; omega, by omega, by go_num, by rw [HW.out, HY.out, ← HX.out, HS.out]; omega, by go_num⟩
        case measure => simp [intOf]; omega
    · have hse : s = start + wsp 0 zs := by rw [HS.out, List.take_of_length_le (by rw [← HL.out]; omega)]
      have HSE := Lib.hid hse
      clear hse
      go_wp2
      go_loop [5] (fun v => ∃ x : Nat, gr x = gr s ∧ x < 4611686018427387904 ∧ v = .int .u64 x) (fun v => (intOf v).toNat)
      case atStart => exact ⟨s, rfl, by omega, rfl⟩
      case round =>
        obtain ⟨x, hg, hx, rfl⟩ := hrel
        have HG := Lib.hid hg
        clear hg
        by_cases hlt : 65535 < x
        · have hst := Lib.hid (gr_step x hlt)
          have ho := Lib.hid (go_on x (by omega))
          go_wp2
          go_round
          case rel => exact ⟨x / 65536 + x % 65536, by rw [hst.out, HG.out], by omega, by rw [ho.out]⟩
          case measure => rw [ho.out]; simp [intOf]; omega
        · have hfin := Lib.hid (gr_lt s x HG.out (by omega))
          go_wp2
          go_ret
          exact ⟨ret_int (by rw [← HSE.out, ← hfin.out]), rfl⟩
set_option maxHeartbeats 400000 in
theorem rcheck_any (va : Value) (zs : List Nat) (w : World) (hr : Rd w va (nus .u8 zs)) (hz : zs.length ≤ 2000) (hb : ∀ c ∈ zs, c < 256) :
    Calls Try.prog 15 #[va] w fun e w' => e = .returned (.int .i64 (ck zs : Nat)) ∧ w = w' := by
  have hg := gr_le (wsp 0 zs)
  have hv : Hid ((65535 : Int) - (gr (wsp 0 zs) : Int) = ((ck zs : Nat) : Int)) := by
    show _ = _
    unfold ck
    omega
  go_enter Try.func15, Try.ntmps15
  go_wp2_with fail
  refine (rsum_any va zs 0 w hr hz hb (by omega)).mono ?_
  rintro e w' ⟨rfl, rfl⟩
  rw [Nat.zero_add]
  go_wp2
  go_ret
  exact ⟨ret_int hv.out, rfl⟩
end Go.Proofs.Ytnpibdjfafpegaa
