/- Texts that the walks of this seat lean on, put together. -/
import Derived.Test.YtnpibdjfafpegaaTk
import Derived.Test.YtnpibdjfafpegaaM08
namespace Go.Proofs.Ytnpibdjfafpegaa
open Go.RowKit Go.Shelf
attribute [local go_sem] Oper.semAt_some
def nw (zs : List Nat) : Nat := (zs.length + 1) / 2
theorem even_two (zs : List Nat) : (even zs).length = 2 * nw zs := by rw [even_length]; unfold nw; omega
theorem even_lt (zs : List Nat) (h : ∀ c ∈ zs, c < 256) : ∀ c ∈ even zs, c < 256 := by
  intro c hc
  rcases List.mem_append.1 hc with hc | hc
  · exact h c hc
  · have := (List.mem_replicate.1 hc).2; omega
def tot (l : List (Nat × Nat)) : Nat := (l.map Prod.snd).sum
def SumI (b : Nat) (start : Nat) (w0 : World) (l : List (Nat × Nat)) (W : World) : Prop :=
  Boxed W b 79 (.int .u64 (IntKind.u64.wrap ((start : Int) + (tot l : Int)))) ∧ b + 1 ≤ W.heap.size ∧ Below b w0 W
theorem SumI.own (b B : Nat) (start : Nat) (w0 : World) (h : b ≤ w0.heap.size) (hB : b ≤ B) : OwnFrom B (SumI b start w0) :=
  OwnFrom.and (Own.from (boxed_own b 79 (fun l => .int .u64 (IntKind.u64.wrap ((start : Int) + (tot l : Int))))) _) (OwnFrom.and (fun _ _ _ _ hs hg _ => Nat.le_trans hs hg.size) (ownFrom_below h hB))
theorem tot_snoc (l : List (Nat × Nat)) (x : Nat × Nat) : tot (l ++ [x]) = tot l + x.2 := by simp [tot]
theorem tot_upto (zs : List Nat) : ∀ k, k ≤ nw zs → tot (upto (wd (even zs)) k) = wsp 0 ((even zs).take (2 * k))
  | 0, _ => by simp [tot, upto, wsp]
  | k + 1, h => by
    have he := even_two zs
    rw [upto_succ, tot_snoc, tot_upto zs k (by omega), wsp_two _ _ (by omega)]
    unfold wd w2
    rw [be_two _ _ (by omega)]
theorem wsp_even (zs : List Nat) : wsp 0 (even zs) = wsp 0 zs := by unfold even; rw [wsp_append, wsp_zeros]; omega
theorem tot_all (zs : List Nat) : tot (upto (wd (even zs)) (nw zs)) = wsp 0 zs := by
  rw [tot_upto zs _ (Nat.le_refl _), List.take_of_length_le (by rw [even_two]; exact Nat.le_refl _), wsp_even]
theorem start_wrap (start : Nat) (h : start < 4294967296) : IntKind.u64.wrap ((start : Int) + (tot [] : Int)) = (start : Int) := by
  rw [IntKind.wrap_u64]; simp [tot]; omega
theorem tot_wrap (s t x : Nat) : IntKind.u64.wrap (IntKind.u64.wrap ((s : Int) + (t : Int)) + IntKind.u64.wrap (x : Int)) = IntKind.u64.wrap ((s : Int) + ((t + x : Nat) : Int)) := by
  simp only [IntKind.wrap_u64]; omega
theorem sum_wrap (s t : Nat) (h : s < 4294967296) (h2 : t < 18446744069414584320) : IntKind.u64.wrap ((s : Int) + (t : Int)) = ((s + t : Nat) : Int) := by
  rw [IntKind.wrap_u64]; omega
theorem sum_small (zs : List Nat) (hz : zs.length ≤ 140737488351232) (hb : ∀ c ∈ zs, c < 256) : wsp 0 zs < 18446744069414584320 := by
  have := wsp_le zs 0 hb; omega
theorem mid_set {lo hi : Nat} (A : World) (k : Nat) (v : Value) (h : k < lo) : Mid lo hi A (A.setCell ⟨k, 0, none⟩ v) :=
  ⟨by simp [World.setCell], fun j h1 _ => Below.heap_setCell A ⟨k, 0, none⟩ v j (show j ≠ k by omega)⟩
set_option maxRecDepth 100000 in
set_option maxHeartbeats 2000000 in
theorem sum_any (va : Value) (zs : List Nat) (start : Nat) (w : World) (hr : Rd w va (nus .u8 zs)) (hz : zs.length ≤ 140737488351232) (hb : ∀ c ∈ zs, c < 256) (hs : start < 4294967296) :
    Calls Try.prog 65 #[va, .int .u32 (start : Int)] w fun e w' => e = .returned (.int .u16 (gr (start + wsp 0 zs) : Nat)) ∧ Below w.heap.size w w' := by
  refine (callsIn_wide (n := 3)).1 ?_
  refine callsIn_of_wp_marks Try.func65 rfl trivial ?_ rfl
  simp only [Try.ntmps65, List.size_toArray, List.length_cons, List.length_nil, Nat.reduceAdd, Nat.reduceSub, Array.replicate_succ, Array.replicate_zero, List.push_toArray, List.append_toArray, List.nil_append, List.cons_append]
  have hb3 : Below w.heap.size w (w.alloc (.cells #[.int .u64 (start : Int)] 79)) := (Below.refl _ w).alloc (Nat.le_refl _) _
  have x1 := Boxed.new w 79 (.int .u64 (start : Int))
  gi_wp2_with fail
  refine ⟨trivial, ?_⟩
  generalize hW : w.alloc (.cells #[.int .u64 (start : Int)] 79) = W at hb3 x1 ⊢
  have hWs : W.heap.size = w.heap.size + 1 := by rw [← hW]; simp
  clear hW
  refine (callsIn_wide.2 (words_any va zs W (hr.below hb3) hz)).mono ?_
  rintro e W0 ⟨Be, g, rfl, h1, h2, h3, h4, h5⟩
  gi_wp2_with fail
  have hLE := even_two zs
  have hEb := even_lt zs hb
  have hz2 : (even zs).length ≤ 140737488355328 := by rw [even_length]; omega
  have hW0 := h5.size
  have hgs : g < W0.heap.size := (Array.getElem?_eq_some_iff.1 h4).1
  have hBs := h3.lt
  have hwW0 : Below w.heap.size w W0 := hb3.trans (h5.mono (by omega))
  have g0 : SumI w.heap.size start w [] W0 := ⟨((h5.block _ (by omega)).trans x1).trans (by rw [start_wrap start hs]), by omega, hwW0⟩
  refine wpIn_rangeFunc_ownG rfl (by omega) (gf := 76) (lb := #[.pointer (some ⟨Be, 0, none⟩)]) rfl trivial (enters_of Try.func76 (by kernel_rfl) rfl)
    (it_stops 2 (by omega) Be g W.heap.size W0.heap.size (nw zs) (even zs) hLE hEb hz2 h1 hBs h2 hgs W0 (Nat.le_refl _) h3 h4) mid_t (mid_b (Nat.le_refl _)) (Below.refl _ _) (fun _ => rfl)
    (SumI w.heap.size start w)
    (fun _ _ _ => False)
    (SumI.own _ _ _ _ (Nat.le_refl _) (by omega))
    (fun c s A B row hs hg hr => hs)
    g0
    (fun x => { tmps := #[va, .int .u32 (start : Int), undef, undef, .int .u16 0, .pointer (some ⟨w.heap.size, 0, none⟩), undef, .int .u16 (x.2 : Int), .int .u32 (start : Int), .int .u64 (start : Int), va, .func (.func 76) #[] #[.pointer (some ⟨Be, 0, none⟩)], .int .i64 (x.1 : Int), .int .u16 (x.2 : Int), undef, undef, undef, undef, undef, undef], defers := [] }) ?assign ?body ?done ?stop
  case assign =>
    intro l x W' K hK
    gi_wp2
    exact hK
  case body =>
    rintro l pre x W' hG hlt
    obtain ⟨bx, hsz, hB⟩ := hG
    have c1 := bx.cell
    have cf := bx.frozen
    clear hr hz hb hs hb3 x1 h1 h2 h3 h4 h5 hLE hEb hz2 hgs hBs hwW0 g0
    gi_wp2
    have htw := Lib.hid (tot_wrap start (tot pre) x.2)
    refine ⟨KeepsOthers.from (KeepsOthers.setCell _ _ _) _, mid_set _ _ _ (by omega), ?_, ?_, hB.setCell (Nat.le_refl _) _⟩
    · refine (bx.set _).trans ?_
      rw [htw.out, tot_snoc]
    · simpa using hsz
  case done =>
    rintro D ys Wn hD hys ⟨bx, hsz, hB⟩ hK
    have hv : IntKind.u64.wrap ((start : Int) + (tot ys : Int)) = ((start + wsp 0 zs : Nat) : Int) := by
      rw [hys, tot_all, sum_wrap _ _ hs (sum_small zs hz hb)]
    have hlt : start + wsp 0 zs < 18446744073709551616 := by have := sum_small zs hz hb; omega
    rw [hv] at bx
    obtain ⟨u, hu⟩ : ∃ u, u = start + wsp 0 zs := ⟨_, rfl⟩
    rw [← hu] at bx hlt
    have HU := Lib.hid hu
    have c1 := bx.cell
    clear hu hv hys hr hz hb hs hb3 x1 h1 h2 h3 h4 h5 hLE hEb hz2 hgs hBs hwW0 g0
    gi_wp2_with fail
    refine ⟨trivial, ?_⟩
    refine (callsIn_wide.2 (rnd_any u _ hlt)).mono ?_
    rintro e w' ⟨rfl, rfl⟩
    gi_wp2
    refine ⟨by simp, .inl ⟨_, _, rfl, run_takeDeferred hK, ?_⟩⟩
    refine ⟨.int .u16 ((gr u : Nat) : Int), by simp [results, Try.f65, go_sem], ?_, hB.trans (belowK_b (w := w) (Nat.le_refl _) _ D _ _ (by omega) hK rfl rfl)⟩
    rw [HU.out]
  case stop => 
    rintro D c l Wn hD hk h
    exact h.elim
theorem not_gr (u : Nat) : bits BinOp.xor IntKind.u16 IntKind.u16.max ((gr u : Nat) : Int) = ((65535 - gr u : Nat) : Int) := not16 _ (by have := gr_le u; omega)
end Go.Proofs.Ytnpibdjfafpegaa
