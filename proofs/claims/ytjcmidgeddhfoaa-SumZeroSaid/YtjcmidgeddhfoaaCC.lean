/- Contract of chksum.Change. -/
import Derived.Test.YtjcmidgeddhfoaaCS
namespace Go.Proofs.Ytjcmidgeddhfoaa
open Go.RowKit Go.Shelf
attribute [local go_sem] Oper.semAt_some

/-- A checksum where the words of these numbers are others. -/
def chgL (old : Nat) (F T : List Nat) (ks : List Nat) : Nat := ks.foldl (fun o k => upd o (w2 F k) (w2 T k)) old
theorem chgL_snoc (old : Nat) (F T ks : List Nat) (k : Nat) : chgL old F T (ks ++ [k]) = upd (chgL old F T ks) (w2 F k) (w2 T k) := by simp [chgL]
theorem chgL_upto (old : Nat) (F T : List Nat) : ∀ m, chgL old F T (upto id m) = chg old F T m
  | 0 => rfl
  | m + 1 => by rw [upto_succ, chgL_snoc, chgL_upto old F T m]; rfl
theorem chgL_le (old : Nat) (F T : List Nat) (h : old ≤ 65535) (ks : List Nat) : chgL old F T ks ≤ 65535 := by
  rcases List.eq_nil_or_concat ks with rfl | ⟨l, k, rfl⟩
  · exact h
  · rw [List.concat_eq_append, chgL_snoc]; exact upd_le _ _ _
theorem be_w2 (E : List Nat) (m k : Nat) (h : E.length = 2 * m) : be ((E.drop (2 * k)).take 2) = w2 E k := by
  by_cases hk : k < m
  · rw [be_two _ _ (by omega)]; rfl
  · rw [List.drop_eq_nil_of_le (by omega)]
    unfold w2
    rw [List.getD_eq_getElem?_getD, List.getD_eq_getElem?_getD, List.getElem?_eq_none (by omega), List.getElem?_eq_none (by omega)]
    rfl
theorem even_same (F : List Nat) (h : F.length % 2 = 0) : even F = F := by unfold even; rw [h]; simp

def ChgI (b B2 : Nat) (old : Nat) (F T : List Nat) (vt : Value) (w0 : World) (l : List Nat) (W : World) : Prop :=
  Boxed W b 24 (.int .u16 (chgL old F T l : Int)) ∧ Boxed W B2 22 vt ∧ b + 2 ≤ W.heap.size ∧ Below b w0 W
theorem ChgI.own (b B2 B : Nat) (old : Nat) (F T : List Nat) (vt : Value) (w0 : World) (h : b ≤ w0.heap.size) (hB : b ≤ B) : OwnFrom B (ChgI b B2 old F T vt w0) :=
  OwnFrom.and (Own.from (boxed_own b 24 (fun l => .int .u16 (chgL old F T l : Int))) _) (OwnFrom.and (Own.from (boxed_own B2 22 (fun _ => vt)) _) (OwnFrom.and (fun _ _ _ _ hs hg _ => Nat.le_trans hs hg.size) (ownFrom_below h hB)))

set_option maxRecDepth 100000 in
set_option maxHeartbeats 2000000 in
theorem change_no (old : Nat) (vf vt : Value) (F T : List Nat) (w : World) (hf : Rd w vf (nus .u8 F)) (ht : Rd w vt (nus .u8 T)) (hno : F.length ≠ T.length ∨ F.length % 2 ≠ 0) :
    Calls Try.prog 13 #[.int .u16 (old : Int), vf, vt] w fun e w' => e = .returned (.int .u16 (old : Nat)) ∧ Below w.heap.size w w' := by
  obtain ⟨a1, c1, rfl, h1, h2, -⟩ := hf
  obtain ⟨a2, c2, rfl, h3, h4, -⟩ := ht
  rw [nus_length] at h1 h3 ⊢
  rw [nus_length]
  obtain ⟨m, hm⟩ : ∃ m, m = F.length := ⟨_, rfl⟩
  obtain ⟨n, hn⟩ : ∃ n, n = T.length := ⟨_, rfl⟩
  rw [← hm] at h1 hno ⊢
  rw [← hn] at h3 hno ⊢
  unfold maxLen at h2 h4
  clear hm hn
  go_enter Try.func13, Try.ntmps13
  have hb3 := ((Below.refl w.heap.size w).alloc (Nat.le_refl _) (.cells #[.int .u16 (old : Int)] 24)).alloc (by simp) (.cells #[.slice a2 n c2] 22)
  go_wp2
  all_goals
    go_ret
    exact ⟨rfl, hb3⟩

set_option maxRecDepth 100000 in
set_option maxHeartbeats 2000000 in
theorem change_yes (old : Nat) (vf vt : Value) (F T : List Nat) (w : World) (hf : Rd w vf (nus .u8 F)) (ht : Rd w vt (nus .u8 T)) (m : Nat) (hF : F.length = 2 * m) (hT : T.length = 2 * m)
    (hz : F.length ≤ 140737488351232) (hbF : ∀ c ∈ F, c < 256) (hbT : ∀ c ∈ T, c < 256) (ho : old < 65536) :
    Calls Try.prog 13 #[.int .u16 (old : Int), vf, vt] w fun e w' => e = .returned (.int .u16 (chg old F T m : Nat)) ∧ Below w.heap.size w w' := by
  have hrf := hf
  have hrt := ht
  obtain ⟨a1, c1, rfl, h1, h2, -⟩ := hf
  obtain ⟨a2, cq, rfl, h3, h4, -⟩ := ht
  rw [nus_length, hF] at h1 hrf ⊢
  rw [nus_length, hT] at h3 hrt ⊢
  unfold maxLen at h2 h4
  obtain ⟨n, hn⟩ : ∃ n, n = 2 * m := ⟨_, rfl⟩
  rw [← hn] at h1 h3 hrf hrt ⊢
  have hn2 : ((n : Int) % 2 != 0) = false := by rw [bne_eq_false_iff_eq]; omega
  have HN := Lib.hid hn
  clear hn
  refine (callsIn_wide (n := 3)).1 ?_
  refine callsIn_of_wp_marks Try.func13 rfl trivial ?_ rfl
  simp only [Try.ntmps13, List.size_toArray, List.length_cons, List.length_nil, Nat.reduceAdd, Nat.reduceSub, Array.replicate_succ, Array.replicate_zero, List.push_toArray, List.append_toArray, List.nil_append, List.cons_append]
  have hb3 := ((Below.refl w.heap.size w).alloc (Nat.le_refl _) (.cells #[.int .u16 (old : Int)] 24)).alloc (by simp) (.cells #[.slice a2 n cq] 22)
  have x1 := (Boxed.new w 24 (.int .u16 (old : Int))).alloc (.cells #[.slice a2 n cq] 22)
  have x2 := Boxed.new (w.alloc (.cells #[.int .u16 (old : Int)] 24)) 22 (.slice a2 n cq)
  simp only [World.size_alloc] at x2
  gi_wp2_with fail
  refine ⟨trivial, ?_⟩
  generalize hW : (w.alloc (.cells #[.int .u16 (old : Int)] 24)).alloc (.cells #[.slice a2 n cq] 22) = W at hb3 x1 x2 ⊢
  have hWs : W.heap.size = w.heap.size + 2 := by rw [← hW]; simp
  clear hW
  refine (callsIn_wide.2 (words_any (.slice a1 n c1) F W (hrf.below hb3) hz)).mono ?_
  rintro e W0 ⟨Be, g, rfl, h5, h6, h7, h8, h9⟩
  rw [even_same F (by omega)] at h7 h8
  gi_wp2_with fail
  have hW0 := h9.size
  have hgs : g < W0.heap.size := (Array.getElem?_eq_some_iff.1 h8).1
  have hBs := h7.lt
  have hwW0 : Below w.heap.size w W0 := hb3.trans (h9.mono (by omega))
  have g0 : ChgI w.heap.size (w.heap.size + 1) old F T (.slice a2 n cq) w [] W0 := ⟨(h9.block _ (by omega)).trans x1, (h9.block _ (by omega)).trans x2, by omega, hwW0⟩
  refine wpIn_rangeFunc_ownG rfl (by omega) (gf := 22) (lb := #[.pointer (some ⟨Be, 0, none⟩)]) rfl trivial (enters_of Try.func22 (by kernel_rfl) rfl)
    (it_stopsN 2 (by omega) Be g W.heap.size W0.heap.size m F hF hbF (by omega) h5 hBs h6 hgs W0 (Nat.le_refl _) h7 h8) mid_t (mid_b (Nat.le_refl _)) (Below.refl _ _) (fun _ => rfl)
    (ChgI w.heap.size (w.heap.size + 1) old F T (.slice a2 n cq) w)
    (fun _ _ _ => False)
    (ChgI.own _ _ _ _ _ _ _ _ (Nat.le_refl _) (by omega))
    (fun c s A B row hs hg hr => hs)
    g0
    (fun k => { tmps := #[.int .u16 (old : Int), .slice a1 n c1, .slice a2 n cq, .pointer (some ⟨w.heap.size, 0, none⟩), undef, .pointer (some ⟨w.heap.size + 1, 0, none⟩), .int .u16 0, .int .i64 (at2 k : Int), .int .u16 (be ((F.drop (at2 k)).take 2) : Int), undef, undef, .slice a1 n c1, .int .i64 n, .slice a2 n cq, .int .i64 n, .bool false, .bool false, .slice a1 n c1, .int .i64 n, .int .i64 ((n : Int) % 2), .bool false, .bool false, undef, .slice a1 n c1, .func (.func 22) #[] #[.pointer (some ⟨Be, 0, none⟩)], .int .i64 (at2 k : Int), .int .u16 (be ((F.drop (at2 k)).take 2) : Int), undef, undef, undef, undef, undef, undef, undef, undef, undef, undef, undef], defers := [] }) ?assign ?body ?done ?stop
  case assign =>
    intro l x W' K hK
    gi_wp2
    exact hK
  case body =>
    rintro l pre x W' ⟨bx, by2, hsz, hB⟩ hlt
    have c1 := bx.cell
    have cf := bx.frozen
    have c2 := by2.cell
    have hrt' := hrt.below hB
    have hle := chgL_le old F T (by omega) pre
    have hsn := Lib.hid (chgL_snoc old F T pre x)
    have hw1 := w2_lt F x hbF
    have hw2 := w2_lt T x hbT
    rw [show be ((F.drop (at2 x)).take 2) = w2 F x from be_w2 F m x hF]
    have HRT := Lib.hid hrt'
    have HBT := Lib.hid hbT
    have HT := Lib.hid hT
    have HBE := Lib.hid (be_w2 T m x hT)
    have hat : at2 x = 2 * x := rfl
    obtain ⟨o, ho2⟩ : ∃ o, o = chgL old F T pre := ⟨_, rfl⟩
    obtain ⟨p, hp⟩ : ∃ p, p = w2 F x := ⟨_, rfl⟩
    obtain ⟨q, hq⟩ : ∃ q, q = w2 T x := ⟨_, rfl⟩
    rw [← ho2] at bx c1 hle hsn
    rw [← hp] at hw1 hsn ⊢
    rw [← hq] at hw2 hsn HBE
    clear hrf hF hT hz hbF hbT ho hrt hb3 x1 x2 h5 h6 h7 h8 h9 hgs hBs hwW0 g0 hrt' ho2 hp hq hn2 HN h1
    obtain ⟨v, b, hv, hget⟩ : ∃ v b, v = q ∧ Calls Try.prog 20 #[Value.slice a2 n cq, Value.int IntKind.i64 (at2 x : Int)] W' fun e w' => e = .returned (.tuple #[.int .u16 (v : Int), .bool b]) ∧ W' = w' := by
      by_cases hx : 2 * x + 2 ≤ T.length
      · exact ⟨_, true, HBE.out, get16_yes _ (2 * x) T W' HRT.out HBT.out hx⟩
      · have hq0 : q = 0 := by
          rw [← HBE.out, List.drop_eq_nil_of_le (by have := HT.out; omega)]; rfl
        have hn : T.length = n := by
          obtain ⟨a, c, he, _⟩ := HRT.out
          simp only [Value.slice.injEq, nus_length] at he
          exact he.2.1.symm
        refine ⟨0, false, hq0.symm, get16_no a2 n cq (at2 x : Int) W' (by unfold maxLen; omega) (.inr ?_)⟩
        rw [hat]
        omega
    subst hv
    have HG := Lib.hid hget
    clear hget hat HBE
    gi_wp2_with fail
    refine ⟨trivial, ?_⟩
    refine (CallsIn.inRound l (callsIn_wide.2 HG.out)).mono ?_
    rintro e w' ⟨rfl, rfl⟩
    gi_wp2_with fail
    refine ⟨trivial, ?_⟩
    refine (CallsIn.inRound l (callsIn_wide.2 (upd_any o p v _ (by omega) hw1 hw2))).mono ?_
    rintro e w' ⟨rfl, rfl⟩
    gi_wp2
    refine ⟨KeepsOthers.from (KeepsOthers.setCell _ _ _) _, mid_set _ _ _ (by omega), ?_, by2.other (by omega) _, by simpa using hsz, hB.setCell (Nat.le_refl _) _⟩
    refine (bx.set _).trans ?_
    rw [hsn.out]
  case done =>
    rintro D ys Wn hD hys ⟨bx, by2, hsz, hB⟩ hK
    rw [hys, chgL_upto] at bx
    have c1 := bx.cell
    clear hrf hF hT hz hbF hbT ho hrt hb3 x1 x2 h5 h6 h7 h8 h9 hgs hBs hwW0 g0 hn2 HN
    gi_wp2
    refine ⟨by simp, .inl ⟨_, _, rfl, run_takeDeferred hK, ?_⟩⟩
    exact ⟨.int .u16 ((chg old F T m : Nat) : Int), by simp [results, Try.f13, go_sem], rfl, hB.trans (belowK_b (w := w) (Nat.le_refl _) _ D _ _ (by omega) hK rfl rfl)⟩
  case stop => 
    rintro D c l Wn hD hk h
    exact h.elim
end Go.Proofs.Ytjcmidgeddhfoaa
