/- addr.Text of IPv4: numbers. -/
import Derived.Test.YtjcmidgeddhfoaaDoorBlk
import Derived.Test.YtjcmidgeddhfoaaDoorAF
import Derived.LoopTactic
import Derived.OwnWalk
import Derived.Handy
namespace Go.Proofs.YtjcmidgeddhfoaaDoor
open Go.RowKit Go.Lib

theorem Tryd.info5 : (Tryd.prog.info? 5).map (fun i => (i.zero, i.size, i.bytes)) = some (some (.int .u8 0), 1, 1) := by kernel_rfl
/-- A row of bytes of the call's own, as a string. -/
theorem conv_own {w : World} {base n : Nat} {v : Value} {l : List UInt8} (h : w.ownsRow base 5 1 v n (Lib.byteCells l)) (h0 : 0 < n) :
    (convert 32 9 v).run Tryd.prog w = .ok (.string ⟨l.toArray⟩) w := by
  obtain ⟨g, cap, rfl⟩ : ∃ g cap, v = .slice (some ⟨g, 0, none⟩) n cap := by
    rcases h.2 with ⟨_, e⟩ | ⟨g, cap, _, e, _⟩
    · omega
    · exact ⟨g, cap, e⟩
  have hn : n = l.length := by have := h.1; simpa [Lib.byteCells] using this.symm
  have hc := h.cells (g := g) rfl
  have := run_convert_bytes_back (P := Tryd.prog) w 32 9 5 ⟨g, 0, none⟩ cap l Tryd.underlying32 Tryd.underlying5 Tryd.underlying9 (fun j hj => hc j _ (by simp [Lib.byteCells, hj]))
  rw [hn]
  exact this

/-- The text of the first k numbers. -/
def pre4 (ns : List Nat) (k : Nat) : List UInt8 := text4 (ns.take k)
theorem text4_snoc : ∀ (ns : List Nat) (n : Nat), ns ≠ [] → text4 (ns ++ [n]) = text4 ns ++ 46 :: decDigits n
  | [], _, h => absurd rfl h
  | [a], n, _ => by simp [text4]
  | a :: b :: t, n, _ => by
    have := text4_snoc (b :: t) n (by simp)
    simp only [List.cons_append] at this ⊢
    rw [text4, this, text4]
    simp
theorem pre4_zero (ns : List Nat) : pre4 ns 0 = [] := rfl
theorem pre4_one (ns : List Nat) (h : 0 < ns.length) : pre4 ns 1 = decDigits (ns.getD 0 0) := by
  match ns, h with
  | a :: t, _ => simp [pre4, text4]
theorem pre4_succ (ns : List Nat) (k : Nat) (h0 : 0 < k) (hk : k < ns.length) : pre4 ns (k + 1) = pre4 ns k ++ 46 :: decDigits (ns.getD k 0) := by
  unfold pre4
  rw [List.take_succ_eq_append_getElem hk, text4_snoc _ _ (by
    intro e
    rcases List.take_eq_nil_iff.1 e with h | h
    · omega
    · rw [h] at hk; simp at hk)]
  simp [hk]
theorem pre4_len : ∀ (ns : List Nat) (k : Nat), (∀ n ∈ ns, n < 256) → k ≤ ns.length → (pre4 ns k).length ≤ 4 * k
  | ns, 0, _, _ => by simp [pre4_zero]
  | ns, 1, hb, hk => by
    rw [pre4_one ns hk]
    match ns, hk with
    | a :: t, _ => have := (dec_plain a (hb a (by simp))).2.2; simp; omega
  | ns, k + 2, hb, hk => by
    rw [pre4_succ ns (k + 1) (by omega) (by omega)]
    have h1 := pre4_len ns (k + 1) hb (by omega)
    have h2 := (dec_plain (ns.getD (k + 1) 0) (by rw [List.getD_eq_getElem?_getD, List.getElem?_eq_getElem (by omega)]; exact hb _ (List.getElem_mem _))).2.2
    rw [List.length_append, List.length_cons]
    omega

set_option maxHeartbeats 400000 in
/-- strconv.AppendUint at base 10. -/
theorem app_uint (B n u : Nat) (hu : u < 256) (sv : Value) (l : List UInt8) (w : World) (hown : w.ownsRow B 5 1 sv n (Lib.byteCells l)) (hB : B ≤ w.heap.size) (hn : n ≤ 100) (hE : Env w) :
    Calls Tryd.prog 25 #[sv, .int .u64 u, .int .i64 10] w fun e w' => ∃ v' m, e = .returned v' ∧ w'.ownsRow B 5 1 v' m (Lib.byteCells (l ++ decDigits u)) ∧ Below B w w' := by
  have H := Lib.hid (Tryd.internal_strconv_AppendUint_10 B n u (by omega) sv (Lib.byteCells l) w hown hB (by omega) hE.tab)
  go_enter Tryd.func25, Tryd.ntmps25
  go_wp2_with (go_at_call 31; refine H.out.mono ?_; rintro e w' ⟨v', rfl, ho, hb, hk⟩)
  go_ret
  refine ⟨v', n + (decDigits u).length, rfl, ?_, hb⟩
  have e : Lib.byteCells (l ++ decDigits u) = Lib.byteCells l ++ Lib.byteCells (decDigits u) := by simp [Lib.byteCells]
  rw [e]
  exact ho

set_option maxRecDepth 100000 in
set_option maxHeartbeats 2000000 in
theorem numbers_any (a b c d : Nat) (hb : ∀ n ∈ [a, b, c, d], n < 256) (w : World) (hE : Env w) :
    Calls Tryd.prog 19 #[.agg #[.int .u8 a, .int .u8 b, .int .u8 c, .int .u8 d]] w fun e w' => e = .returned (.string ⟨(text4 [a, b, c, d]).toArray⟩) ∧ Below w.heap.size w w' := by
  obtain ⟨i0, hi, hz0, hz1, hz2⟩ := info_parts Tryd.info5
  obtain ⟨ns, hns⟩ : ∃ ns, ns = [a, b, c, d] := ⟨_, rfl⟩
  rw [← hns] at hb ⊢
  have HN := Lib.hid hns
  have HB := Lib.hid hb
  have HE := Lib.hid hE
  have h8 : a < 256 ∧ b < 256 ∧ c < 256 ∧ d < 256 := by
    rw [hns] at hb
    exact ⟨hb a (by simp), hb b (by simp), hb c (by simp), hb d (by simp)⟩
  obtain ⟨ha, hb', hc, hd⟩ := h8
  clear hns hb hE
  go_enter Tryd.func19, Tryd.ntmps19
  go_wp2
  go_loopw [3, 7] (fun out i wr => ∃ k n : Nat, k ≤ 4 ∧ i = .int .i64 k ∧ Hid (wr.ownsRow w.heap.size 5 1 out n (Lib.byteCells (pre4 ns k))) ∧ Hid (Below w.heap.size w wr)) (fun _ i _ => 4 - (RowKit.intOf i).toNat)
  case atStart => exact ⟨0, 0, by omega, rfl, Lib.hid (World.ownsRow_nil _ _ _ _), Lib.hid ((Below.refl _ w).alloc (Nat.le_refl _) _)⟩
  case round =>
    obtain ⟨k, n, hk, rfl, hown, hlow⟩ := hrel
    have hn : n = (pre4 ns k).length := by have := hown.out.1; simpa [Lib.byteCells] using this.symm
    have hle := pre4_len ns k HB.out (by rw [HN.out]; simpa using hk)
    have hn16 : n ≤ 16 := by omega
    clear hn hle
    have h5 : k = 0 ∨ k = 1 ∨ k = 2 ∨ k = 3 ∨ k = 4 := by omega
    rcases h5 with rfl | rfl | rfl | rfl | rfl
    · have hix : ∀ W, (Instr.index 43 (.agg #[.int .u8 (a : Int), .int .u8 (b : Int), .int .u8 (c : Int), .int .u8 (d : Int)]) (.int .i64 0)).run Tryd.prog W = .ok (.int .u8 (a : Int)) W := fun W => by kernel_rfl
      have hlow2 := hlow.out
      have hE1 := HE.out.below (hlow2.mono (Nat.le_refl _))
      have C := Lib.hid (app_uint w.heap.size n a ha _ _ wr hown.out hlow2.size (by omega) hE1)
      clear hlow2 hE1
      go_wp2_with fail
      refine C.out.mono ?_
      rintro e w2 ⟨v2, m2, rfl, ho2, hb2⟩
      have HO := Lib.hid ho2
      have HB2 := Lib.hid (hlow.out.trans hb2)
      clear ho2 hb2 C
      go_wp2
      go_roundw
      case rel => exact ⟨0+1, m2, by omega, by go_num, Lib.hid (by rw [pre4_one ns (by rw [HN.out]; simp), show ns.getD 0 0 = a by rw [HN.out]; rfl]; simpa [pre4_zero] using HO.out), HB2⟩
      case measure => simp [RowKit.intOf]
    · have hix : ∀ W, (Instr.index 43 (.agg #[.int .u8 (a : Int), .int .u8 (b : Int), .int .u8 (c : Int), .int .u8 (d : Int)]) (.int .i64 1)).run Tryd.prog W = .ok (.int .u8 (b : Int)) W := fun W => by kernel_rfl
      have hown2 := hown.out
      have hlow2 := hlow.out
      go_wp2_with (at_builtin; refine wpList_append_own _ rfl _ _ 32 rfl w.heap.size 5 i0 (.int .u8 0) 1 1 Tryd.underlying32 hi hz0 hz1 hz2 rfl (by decide) _ _ _ rfl (hown2.alloc _) ⟨wr.heap.size, 0, none⟩ 1 1 [.int .u8 46] rfl rfl (cell_one_new _ _ _) ?c21 ?c31 ?c41 ?c51 ?_)
      case c21 => intro u hu; simp at hu; subst hu; rfl
      case c31 => unfold maxLen; omega
      case c41 => omega
      case c51 => have := hlow2.size; simp; omega
      intro v1 w1 hown1 hgrow _
      have hlow1 := (hlow2.alloc hlow2.size (Obj.cells #[Value.int IntKind.u8 46] 5)).grown hgrow (by have := hlow2.size; simp; omega) (fun k hk => (hown2.lt k hk).1)
      have hE1 := HE.out.below (hlow1.mono (Nat.le_refl _))
      have hown3 : w1.ownsRow w.heap.size 5 1 v1 (n + 1) (Lib.byteCells (pre4 ns 1 ++ [46])) := by simpa [Lib.byteCells] using hown1
      have C := Lib.hid (app_uint w.heap.size (n + 1) b hb' v1 _ w1 hown3 hlow1.size (by omega) hE1)
      have HL1 := Lib.hid hlow1
      clear hown2 hlow2 hown1 hgrow hlow1 hE1 hown3
      go_wp2_with fail
      refine C.out.mono ?_
      rintro e w2 ⟨v2, m2, rfl, ho2, hb2⟩
      have HO := Lib.hid ho2
      have HB2 := Lib.hid (HL1.out.trans hb2)
      clear ho2 hb2 C
      go_wp2
      go_roundw
      case rel => exact ⟨1+1, m2, by omega, by go_num, Lib.hid (by rw [pre4_succ ns 1 (by omega) (by rw [HN.out]; simp), show ns.getD 1 0 = b by rw [HN.out]; rfl]; simpa using HO.out), HB2⟩
      case measure => simp [RowKit.intOf]
    · have hix : ∀ W, (Instr.index 43 (.agg #[.int .u8 (a : Int), .int .u8 (b : Int), .int .u8 (c : Int), .int .u8 (d : Int)]) (.int .i64 2)).run Tryd.prog W = .ok (.int .u8 (c : Int)) W := fun W => by kernel_rfl
      have hown2 := hown.out
      have hlow2 := hlow.out
      go_wp2_with (at_builtin; refine wpList_append_own _ rfl _ _ 32 rfl w.heap.size 5 i0 (.int .u8 0) 1 1 Tryd.underlying32 hi hz0 hz1 hz2 rfl (by decide) _ _ _ rfl (hown2.alloc _) ⟨wr.heap.size, 0, none⟩ 1 1 [.int .u8 46] rfl rfl (cell_one_new _ _ _) ?c22 ?c32 ?c42 ?c52 ?_)
      case c22 => intro u hu; simp at hu; subst hu; rfl
      case c32 => unfold maxLen; omega
      case c42 => omega
      case c52 => have := hlow2.size; simp; omega
      intro v1 w1 hown1 hgrow _
      have hlow1 := (hlow2.alloc hlow2.size (Obj.cells #[Value.int IntKind.u8 46] 5)).grown hgrow (by have := hlow2.size; simp; omega) (fun k hk => (hown2.lt k hk).1)
      have hE1 := HE.out.below (hlow1.mono (Nat.le_refl _))
      have hown3 : w1.ownsRow w.heap.size 5 1 v1 (n + 1) (Lib.byteCells (pre4 ns 2 ++ [46])) := by simpa [Lib.byteCells] using hown1
      have C := Lib.hid (app_uint w.heap.size (n + 1) c hc v1 _ w1 hown3 hlow1.size (by omega) hE1)
      have HL1 := Lib.hid hlow1
      clear hown2 hlow2 hown1 hgrow hlow1 hE1 hown3
      go_wp2_with fail
      refine C.out.mono ?_
      rintro e w2 ⟨v2, m2, rfl, ho2, hb2⟩
      have HO := Lib.hid ho2
      have HB2 := Lib.hid (HL1.out.trans hb2)
      clear ho2 hb2 C
      go_wp2
      go_roundw
      case rel => exact ⟨2+1, m2, by omega, by go_num, Lib.hid (by rw [pre4_succ ns 2 (by omega) (by rw [HN.out]; simp), show ns.getD 2 0 = c by rw [HN.out]; rfl]; simpa using HO.out), HB2⟩
      case measure => simp [RowKit.intOf]
    · have hix : ∀ W, (Instr.index 43 (.agg #[.int .u8 (a : Int), .int .u8 (b : Int), .int .u8 (c : Int), .int .u8 (d : Int)]) (.int .i64 3)).run Tryd.prog W = .ok (.int .u8 (d : Int)) W := fun W => by kernel_rfl
      have hown2 := hown.out
      have hlow2 := hlow.out
      go_wp2_with (at_builtin; refine wpList_append_own _ rfl _ _ 32 rfl w.heap.size 5 i0 (.int .u8 0) 1 1 Tryd.underlying32 hi hz0 hz1 hz2 rfl (by decide) _ _ _ rfl (hown2.alloc _) ⟨wr.heap.size, 0, none⟩ 1 1 [.int .u8 46] rfl rfl (cell_one_new _ _ _) ?c23 ?c33 ?c43 ?c53 ?_)
      case c23 => intro u hu; simp at hu; subst hu; rfl
      case c33 => unfold maxLen; omega
      case c43 => omega
      case c53 => have := hlow2.size; simp; omega
      intro v1 w1 hown1 hgrow _
      have hlow1 := (hlow2.alloc hlow2.size (Obj.cells #[Value.int IntKind.u8 46] 5)).grown hgrow (by have := hlow2.size; simp; omega) (fun k hk => (hown2.lt k hk).1)
      have hE1 := HE.out.below (hlow1.mono (Nat.le_refl _))
      have hown3 : w1.ownsRow w.heap.size 5 1 v1 (n + 1) (Lib.byteCells (pre4 ns 3 ++ [46])) := by simpa [Lib.byteCells] using hown1
      have C := Lib.hid (app_uint w.heap.size (n + 1) d hd v1 _ w1 hown3 hlow1.size (by omega) hE1)
      have HL1 := Lib.hid hlow1
      clear hown2 hlow2 hown1 hgrow hlow1 hE1 hown3
      go_wp2_with fail
      refine C.out.mono ?_
      rintro e w2 ⟨v2, m2, rfl, ho2, hb2⟩
      have HO := Lib.hid ho2
      have HB2 := Lib.hid (HL1.out.trans hb2)
      clear ho2 hb2 C
      go_wp2
      go_roundw
      case rel => exact ⟨3+1, m2, by omega, by go_num, Lib.hid (by rw [pre4_succ ns 3 (by omega) (by rw [HN.out]; simp), show ns.getD 3 0 = d by rw [HN.out]; rfl]; simpa using HO.out), HB2⟩
      case measure => simp [RowKit.intOf]
    · have hown2 := hown.out
      have hlow2 := HB
      have hp : pre4 ns 4 = text4 ns := by unfold pre4; rw [List.take_of_length_le (by rw [HN.out]; simp)]
      rw [hp] at hown2
      have h0 : 0 < n := by
        have h1 := hown2.1
        rw [HN.out] at h1
        simp [Lib.byteCells, text4] at h1
        omega
      have hcv := conv_own hown2 h0
      have HP := Lib.hid hp
      clear hp hown2 h0 hlow2
      go_wp2
      go_ret
      exact ⟨rfl, hlow.out⟩
end Go.Proofs.YtjcmidgeddhfoaaDoor
