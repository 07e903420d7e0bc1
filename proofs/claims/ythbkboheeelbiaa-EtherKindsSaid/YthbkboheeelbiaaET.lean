/- The walk of EtherTells. -/
import Derived.Test.YthbkboheeelbiaaEA
import Derived.Test.YthbkboheeelbiaaRg
namespace Go.Proofs.Ythbkboheeelbiaa
open Go.RowKit

/-- The bytes ahead, with another kind; none, if there is a reason. -/
def withL (zs : List Nat) (k : Nat) : List Nat := if (net zs).2.2 = 0 then zs.take ((net zs).1 - 2) ++ bg 2 k else []
theorem withL_yes (zs : List Nat) (k n : Nat) (h : (net zs).2.2 = 0) (h1 : (net zs).1 = n + 2) : withL zs k = zs.take n ++ bg 2 k := by
  unfold withL
  rw [if_pos h, h1, Nat.add_sub_cancel]

theorem with_any (v : Value) (zs : List Nat) (k : Nat) (w : World) (hr : Rd w v (nus .u8 zs)) (hb : ∀ c ∈ zs, c < 256) (hk : k < 65536) :
    Calls Try.prog 10 #[v, .int .u16 (k : Int)] w fun e w' => ∃ x, e = .returned x ∧ Rd w' x (nus .u8 (withL zs k)) ∧ Below w.heap.size w w' := by
  by_cases h : (net zs).2.2 = 0
  · obtain ⟨n, h1, h2, h3, -⟩ := net_at zs h
    rw [withL_yes zs k n h h1]
    exact (with_yes v zs k n w hr hb hk h h1 h2 (by omega)).mono fun e w' ⟨x, he, ho, hb⟩ => ⟨x, he, Rd.own ho, hb⟩
  · rw [show withL zs k = [] from if_neg h]
    exact (with_noB v zs k w hr hb h).mono fun e w' ⟨he, hb⟩ => ⟨_, he, rd_nil _ _, hb⟩
theorem rwith_any (v : Value) (zs : List Nat) (k : Nat) (w : World) (hr : Rd w v (nus .u8 zs)) (hb : ∀ c ∈ zs, c < 256) (hk : k < 65536) :
    Calls Try.prog 11 #[v, .int .i64 (k : Int)] w fun e w' => ∃ x, e = .returned x ∧ Rd w' x (nus .u8 (withL zs k)) ∧ Below w.heap.size w w' := by
  by_cases h : (net zs).2.2 = 0
  · obtain ⟨n, h1, h2, h3, -⟩ := net_at zs h
    rw [withL_yes zs k n h h1]
    exact (rwith_yes v zs k n w hr hb hk h h1 h2 (by omega)).mono fun e w' ⟨x, he, ho, hb⟩ => ⟨x, he, Rd.own ho, hb⟩
  · rw [show withL zs k = [] from if_neg h]
    exact (rwith_no v zs k w hr hb h).mono fun e w' ⟨he, hb⟩ => ⟨_, he, rd_nil _ _, hb⟩
theorem net_lt (zs : List Nat) (hb : ∀ c ∈ zs, c < 256) : (net zs).1 < 65536 ∧ (net zs).2.1 < 65536 := by
  have h1 := u2_lt zs 12 hb
  have h2 := u2_lt zs 16 hb
  unfold net netK
  repeat' split
  all_goals (constructor <;> simp <;> omega)

set_option maxRecDepth 100000 in
set_option maxHeartbeats 2000000 in
theorem tells_walk (v : Value) (zs : List Nat) (k : Nat) (w : World) (hr : Rd w v (nus .u8 zs)) (hb : ∀ c ∈ zs, c < 256) (hk : k < 65536) :
    Calls Try.prog 3 #[v, .int .u16 (k : Int)] w fun e w' => e = .returned (.bool true) ∧ Below w.heap.size w w' := by
  have HR := Lib.hid hr
  have HB := Lib.hid hb
  have hn := net_lt zs hb
  have hn3 := net_r zs
  have HN := Lib.hid (net_any v zs w hr hb)
  have HM := Lib.hid (rnet_any v zs w hr hb)
  obtain ⟨a, cap, rfl, hlc, hl, -⟩ := hr
  rw [nus_length] at hlc HR HN HM ⊢
  unfold maxLen at hl
  obtain ⟨len, hlen⟩ : ∃ n, n = zs.length := ⟨_, rfl⟩
  obtain ⟨n1, e1⟩ : ∃ n, n = (net zs).1 := ⟨_, rfl⟩
  obtain ⟨n2, e2⟩ : ∃ n, n = (net zs).2.1 := ⟨_, rfl⟩
  obtain ⟨n3, e3⟩ : ∃ n, n = (net zs).2.2 := ⟨_, rfl⟩
  rw [← hlen] at hlc HR HN HM ⊢
  rw [← e1, ← e2] at hn
  rw [← e3] at hn3
  rw [← e1, ← e2, ← e3] at HN HM
  obtain ⟨hn1, hn2⟩ := hn
  have HK := Lib.hid hk
  have HW := Lib.hid (fun W h => with_any (.slice a len cap) zs k W h hb hk)
  have HV := Lib.hid (fun W h => rwith_any (.slice a len cap) zs k W h hb hk)
  clear hlen e1 e2 e3 hb
  go_enter Try.func3, Try.ntmps3
  by_cases g0 : 2000 < len
  · go_wp2_with fail
    refine (awake_any _).mono ?_
    rintro e w2 ⟨rfl, hb⟩
    go_wp2
    go_ret
    exact ⟨rfl, hb⟩
  · go_wp2_with fail
    refine HN.out.mono ?_; rintro e w' ⟨rfl, rfl⟩
    go_wp2_with fail
    refine HM.out.mono ?_; rintro e W ⟨rfl, hb⟩
    have HR1 := Lib.hid (HR.out.below hb)
    have B1 := Lib.hid hb
    clear HR hb HN HM
    have hkc : IntKind.i64.wrap (n2 : Int) = (n2 : Int) := by rw [IntKind.wrap_i64]; omega
    have hkk : IntKind.i64.wrap (k : Int) = (k : Int) := by rw [IntKind.wrap_i64]; omega
    go_wp2_with fail
    refine wp_region_held (S := (fun w' : World => Below W.heap.size W w')) (by kernel_rfl) ?_
    change wpAnyH _ _ _ _ _ _ _ _ W.drew
    have hE0 : Below W.heap.size W W.drew := (Below.refl _ _).drew
    generalize W.drew = Y0 at hE0 ⊢
    have E0 := Lib.hid hE0
    clear hE0
    refine wpAnyH_take (i := 0) (oi := { dst := some 27, op := Op.move (Operand.tmp 5), type := 3, pos := "law.go:33", after := #[], guard := none }) (v := ?_) rfl (by kernel_rfl) (by kernel_rfl) (by kernel_rfl) (fun _ _ _ h => h) (Or.inl ⟨by rfl, ?_⟩) E0.out ?_
    rotate_left
    · (intro w1 hS; go_simp; try with_reducible rfl)
    simp only [Act.put, List.setIfInBounds_toArray, List.set_cons_zero, List.set_cons_succ]
    refine wpAnyH_take (i := 1) (oi := { dst := some 28, op := Op.move (Operand.tmp 8), type := 3, pos := "law.go:33", after := #[], guard := none }) (v := ?_) rfl (by kernel_rfl) (by kernel_rfl) (by kernel_rfl) (fun _ _ _ h => h) (Or.inl ⟨by rfl, ?_⟩) E0.out ?_
    rotate_left
    · (intro w1 hS; go_simp; try with_reducible rfl)
    simp only [Act.put, List.setIfInBounds_toArray, List.set_cons_zero, List.set_cons_succ]
    refine wpAnyH_take (i := 2) (oi := { dst := some 29, op := Op.binOp BinOp.eql 3 (Operand.tmp 27) (Operand.tmp 28) 3, type := 4, pos := "law.go:33", after := #[{ on := 0, ground := Ground.data }, { on := 1, ground := Ground.data }], guard := none }) (v := ?_) rfl (by kernel_rfl) (by kernel_rfl) (by kernel_rfl) (fun _ _ _ h => h) (Or.inl ⟨by rfl, ?_⟩) E0.out ?_
    rotate_left
    · (intro w1 hS; go_simp; try with_reducible rfl)
    simp only [Act.put, List.setIfInBounds_toArray, List.set_cons_zero, List.set_cons_succ]
    refine wpAnyH_take (i := 3) (oi := { dst := some 30, op := Op.move (Operand.tmp 29), type := 4, pos := "law.go:33", after := #[{ on := 2, ground := Ground.data }], guard := none }) (v := ?_) rfl (by kernel_rfl) (by kernel_rfl) (by kernel_rfl) (fun _ _ _ h => h) (Or.inl ⟨by rfl, ?_⟩) E0.out ?_
    rotate_left
    · (intro w1 hS; go_simp; try with_reducible rfl)
    simp only [Act.put, List.setIfInBounds_toArray, List.set_cons_zero, List.set_cons_succ]
    refine wpAnyH_take (i := 4) (oi := { dst := some 31, op := Op.move (Operand.tmp 6), type := 23, pos := "law.go:33", after := #[{ on := 3, ground := Ground.guard }], guard := some (3, true) }) (v := ?_) rfl (by kernel_rfl) (by kernel_rfl) (by kernel_rfl) (fun _ _ _ h => h) (Or.inl ⟨by rfl, ?_⟩) E0.out ?_
    rotate_left
    · (intro w1 hS; go_simp; try with_reducible rfl)
    simp only [Act.put, List.setIfInBounds_toArray, List.set_cons_zero, List.set_cons_succ]
    refine wpAnyH_take (i := 5) (oi := { dst := some 32, op := Op.convert 23 3 (Operand.tmp 31), type := 3, pos := "law.go:33", after := #[{ on := 4, ground := Ground.data }, { on := 3, ground := Ground.guard }], guard := some (3, true) }) (v := ?_) rfl (by kernel_rfl) (by kernel_rfl) (by kernel_rfl) (fun _ _ _ h => h) (Or.inl ⟨by rfl, ?_⟩) E0.out ?_
    rotate_left
    · (intro w1 hS; go_simp; try with_reducible rfl)
    simp only [Act.put, List.setIfInBounds_toArray, List.set_cons_zero, List.set_cons_succ]
    refine wpAnyH_take (i := 6) (oi := { dst := some 33, op := Op.move (Operand.tmp 9), type := 3, pos := "law.go:33", after := #[{ on := 3, ground := Ground.guard }], guard := some (3, true) }) (v := ?_) rfl (by kernel_rfl) (by kernel_rfl) (by kernel_rfl) (fun _ _ _ h => h) (Or.inl ⟨by rfl, ?_⟩) E0.out ?_
    rotate_left
    · (intro w1 hS; go_simp; try with_reducible rfl)
    simp only [Act.put, List.setIfInBounds_toArray, List.set_cons_zero, List.set_cons_succ]
    refine wpAnyH_take (i := 7) (oi := { dst := some 34, op := Op.binOp BinOp.eql 3 (Operand.tmp 32) (Operand.tmp 33) 3, type := 4, pos := "law.go:33", after := #[{ on := 5, ground := Ground.data }, { on := 6, ground := Ground.data }, { on := 3, ground := Ground.guard }], guard := some (3, true) }) (v := ?_) rfl (by kernel_rfl) (by kernel_rfl) (by kernel_rfl) (fun _ _ _ h => h) (Or.inl ⟨by rfl, ?_⟩) E0.out ?_
    rotate_left
    · (intro w1 hS; go_simp; try with_reducible rfl)
    simp only [Act.put, List.setIfInBounds_toArray, List.set_cons_zero, List.set_cons_succ]
    refine wpAnyH_take (i := 8) (oi := { dst := some 35, op := Op.pick (Operand.tmp 30) (Operand.tmp 34) (Operand.const (Value.bool false)), type := 4, pos := "law.go:33", after := #[{ on := 3, ground := Ground.data }, { on := 7, ground := Ground.data }], guard := none }) (v := ?_) rfl (by kernel_rfl) (by kernel_rfl) (by kernel_rfl) (fun _ _ _ h => h) (Or.inl ⟨by rfl, ?_⟩) E0.out ?_
    rotate_left
    · (intro w1 hS; go_simp; try with_reducible rfl)
    simp only [Act.put, List.setIfInBounds_toArray, List.set_cons_zero, List.set_cons_succ]
    refine wpAnyH_take (i := 9) (oi := { dst := some 36, op := Op.move (Operand.tmp 35), type := 4, pos := "law.go:33", after := #[{ on := 8, ground := Ground.data }, { on := 3, ground := Ground.chain }], guard := none }) (v := ?_) rfl (by kernel_rfl) (by kernel_rfl) (by kernel_rfl) (fun _ _ _ h => h) (Or.inl ⟨by rfl, ?_⟩) E0.out ?_
    rotate_left
    · (intro w1 hS; go_simp; try with_reducible rfl)
    simp only [Act.put, List.setIfInBounds_toArray, List.set_cons_zero, List.set_cons_succ]
    refine wpAnyH_take (i := 10) (oi := { dst := some 37, op := Op.move (Operand.tmp 7), type := 3, pos := "law.go:33", after := #[{ on := 9, ground := Ground.guard }], guard := some (9, true) }) (v := ?_) rfl (by kernel_rfl) (by kernel_rfl) (by kernel_rfl) (fun _ _ _ h => h) (Or.inl ⟨by rfl, ?_⟩) E0.out ?_
    rotate_left
    · (intro w1 hS; go_simp; try with_reducible rfl)
    simp only [Act.put, List.setIfInBounds_toArray, List.set_cons_zero, List.set_cons_succ]
    refine wpAnyH_take (i := 11) (oi := { dst := some 38, op := Op.move (Operand.tmp 10), type := 3, pos := "law.go:33", after := #[{ on := 9, ground := Ground.guard }], guard := some (9, true) }) (v := ?_) rfl (by kernel_rfl) (by kernel_rfl) (by kernel_rfl) (fun _ _ _ h => h) (Or.inl ⟨by rfl, ?_⟩) E0.out ?_
    rotate_left
    · (intro w1 hS; go_simp; try with_reducible rfl)
    simp only [Act.put, List.setIfInBounds_toArray, List.set_cons_zero, List.set_cons_succ]
    refine wpAnyH_take (i := 12) (oi := { dst := some 39, op := Op.binOp BinOp.eql 3 (Operand.tmp 37) (Operand.tmp 38) 3, type := 4, pos := "law.go:33", after := #[{ on := 10, ground := Ground.data }, { on := 11, ground := Ground.data }, { on := 9, ground := Ground.guard }], guard := some (9, true) }) (v := ?_) rfl (by kernel_rfl) (by kernel_rfl) (by kernel_rfl) (fun _ _ _ h => h) (Or.inl ⟨by rfl, ?_⟩) E0.out ?_
    rotate_left
    · (intro w1 hS; go_simp; try with_reducible rfl)
    simp only [Act.put, List.setIfInBounds_toArray, List.set_cons_zero, List.set_cons_succ]
    refine wpAnyH_take (i := 13) (oi := { dst := some 40, op := Op.pick (Operand.tmp 36) (Operand.tmp 39) (Operand.const (Value.bool false)), type := 4, pos := "law.go:33", after := #[{ on := 9, ground := Ground.data }, { on := 12, ground := Ground.data }], guard := none }) (v := ?_) rfl (by kernel_rfl) (by kernel_rfl) (by kernel_rfl) (fun _ _ _ h => h) (Or.inl ⟨by rfl, ?_⟩) E0.out ?_
    rotate_left
    · (intro w1 hS; go_simp; try with_reducible rfl)
    simp only [Act.put, List.setIfInBounds_toArray, List.set_cons_zero, List.set_cons_succ]
    refine wpAnyH_take (i := 14) (oi := { dst := some 41, op := Op.move (Operand.tmp 40), type := 4, pos := "law.go:33", after := #[{ on := 13, ground := Ground.data }, { on := 9, ground := Ground.chain }], guard := none }) (v := ?_) rfl (by kernel_rfl) (by kernel_rfl) (by kernel_rfl) (fun _ _ _ h => h) (Or.inl ⟨by rfl, ?_⟩) E0.out ?_
    rotate_left
    · (intro w1 hS; go_simp; try with_reducible rfl)
    simp only [Act.put, List.setIfInBounds_toArray, List.set_cons_zero, List.set_cons_succ]
    refine wpAnyH_take (i := 15) (oi := { dst := some 42, op := Op.move (Operand.tmp 0), type := 22, pos := "law.go:33", after := #[{ on := 14, ground := Ground.guard }], guard := some (14, true) }) (v := ?_) rfl (by kernel_rfl) (by kernel_rfl) (by kernel_rfl) (fun _ _ _ h => h) (Or.inl ⟨by rfl, ?_⟩) E0.out ?_
    rotate_left
    · (intro w1 hS; go_simp; try with_reducible rfl)
    simp only [Act.put, List.setIfInBounds_toArray, List.set_cons_zero, List.set_cons_succ]
    refine wpAnyH_take (i := 16) (oi := { dst := some 43, op := Op.move (Operand.tmp 1), type := 23, pos := "law.go:33", after := #[{ on := 14, ground := Ground.guard }], guard := some (14, true) }) (v := ?_) rfl (by kernel_rfl) (by kernel_rfl) (by kernel_rfl) (fun _ _ _ h => h) (Or.inl ⟨by rfl, ?_⟩) E0.out ?_
    rotate_left
    · (intro w1 hS; go_simp; try with_reducible rfl)
    simp only [Act.put, List.setIfInBounds_toArray, List.set_cons_zero, List.set_cons_succ]
    refine wpAnyH_take (i := 19) (oi := { dst := some 46, op := Op.move (Operand.tmp 0), type := 22, pos := "law.go:33", after := #[{ on := 14, ground := Ground.guard }], guard := some (14, true) }) (v := ?_) rfl (by kernel_rfl) (by kernel_rfl) (by kernel_rfl) (fun _ _ _ h => h) (Or.inl ⟨by rfl, ?_⟩) E0.out ?_
    rotate_left
    · (intro w1 hS; go_simp; try with_reducible rfl)
    simp only [Act.put, List.setIfInBounds_toArray, List.set_cons_zero, List.set_cons_succ]
    refine wpAnyH_take (i := 20) (oi := { dst := some 47, op := Op.move (Operand.tmp 1), type := 23, pos := "law.go:33", after := #[{ on := 14, ground := Ground.guard }], guard := some (14, true) }) (v := ?_) rfl (by kernel_rfl) (by kernel_rfl) (by kernel_rfl) (fun _ _ _ h => h) (Or.inl ⟨by rfl, ?_⟩) E0.out ?_
    rotate_left
    · (intro w1 hS; go_simp; try with_reducible rfl)
    simp only [Act.put, List.setIfInBounds_toArray, List.set_cons_zero, List.set_cons_succ]
    refine wpAnyH_take (i := 21) (oi := { dst := some 48, op := Op.convert 23 3 (Operand.tmp 47), type := 3, pos := "law.go:33", after := #[{ on := 20, ground := Ground.data }, { on := 14, ground := Ground.guard }], guard := some (14, true) }) (v := ?_) rfl (by kernel_rfl) (by kernel_rfl) (by kernel_rfl) (fun _ _ _ h => h) (Or.inl ⟨by rfl, ?_⟩) E0.out ?_
    rotate_left
    · (intro w1 hS; go_simp; try with_reducible rfl)
    simp only [Act.put, List.setIfInBounds_toArray, List.set_cons_zero, List.set_cons_succ]
    refine wpAnyH_ready (rs := [17]) (by kernel_rfl) (by simp) ?_
    refine AllReadyH.cons (o := { dst := some 44, op := Op.call { callee := Callee.value (Operand.func 10), args := #[Operand.tmp 42, Operand.tmp 43], argTypes := #[22, 23] }, type := 22, pos := "law.go:33", after := #[{ on := 15, ground := Ground.data }, { on := 16, ground := Ground.data }, { on := 14, ground := Ground.chain }, { on := 14, ground := Ground.guard }], guard := some (14, true) }) rfl (fun K hK => ?_) AllReadyH.nil
    go_simp
    refine (HW.out Y0 (HR1.out.below E0.out)).mono ?_
    rintro e Y1 ⟨x, rfl, rx, hy⟩
    have E1 := Lib.hid (E0.out.trans (hy.mono E0.out.size))
    have C1 := Lib.hid E1.out
    have hcx : ∀ W', Below Y1.heap.size Y1 W' → (convert 22 9 x).run Try.prog W' = .ok (.string (str (withL zs k))) W' := fun W' hW' => conv_rd W' 22 9 5 Try.underlying22 Try.underlying5 Try.underlying9 _ _ (rx.below hW')
    obtain ⟨T, hT⟩ : ∃ T, T = str (withL zs k) := ⟨_, rfl⟩
    rw [← hT] at hcx
    have HT := Lib.hid hT
    have HCX := Lib.hid hcx
    clear rx hcx hT
    clear hy E0
    refine hK.out _ _ C1.out (fun _ => ?_)
    clear hK K
    refine wpAnyH_mono (S' := (fun w' : World => Below Y1.heap.size Y1 w')) (fun w1 h => C1.out.trans (h.mono C1.out.size)) _ _ _ _ ?_
    clear C1
    try simp only [Act.put, List.setIfInBounds_toArray, List.set_cons_zero, List.set_cons_succ]
    refine wpAnyH_take (i := 18) (oi := { dst := some 45, op := Op.convert 22 9 (Operand.tmp 44), type := 9, pos := "law.go:33", after := #[{ on := 17, ground := Ground.data }, { on := 14, ground := Ground.guard }], guard := some (14, true) }) (v := ?_) rfl (by kernel_rfl) (by kernel_rfl) (by kernel_rfl) (fun _ _ _ h => h) (Or.inl ⟨by rfl, ?_⟩) (Below.refl _ _) ?_
    rotate_left
    · (intro w1 hS; have hW := E1.out.trans (hS.mono E1.out.size); have q := HCX.out w1 hS; clear hW hS; go_simp; try with_reducible rfl)
    simp only [Act.put, List.setIfInBounds_toArray, List.set_cons_zero, List.set_cons_succ]
    refine wpAnyH_ready (rs := [22]) (by kernel_rfl) (by simp) ?_
    refine AllReadyH.cons (o := { dst := some 49, op := Op.call { callee := Callee.value (Operand.func 11), args := #[Operand.tmp 46, Operand.tmp 48], argTypes := #[22, 3] }, type := 22, pos := "law.go:33", after := #[{ on := 19, ground := Ground.data }, { on := 21, ground := Ground.data }, { on := 17, ground := Ground.chain }, { on := 14, ground := Ground.guard }], guard := some (14, true) }) rfl (fun K hK => ?_) AllReadyH.nil
    go_simp
    refine (HV.out Y1 (HR1.out.below E1.out)).mono ?_
    rintro e Y2 ⟨z, rfl, rz, hy⟩
    have E2 := Lib.hid (E1.out.trans (hy.mono E1.out.size))
    have C2 := Lib.hid hy
    have hcz : ∀ W', Below Y2.heap.size Y2 W' → (convert 22 9 z).run Try.prog W' = .ok (.string T) W' := fun W' hW' => by rw [HT.out]; exact conv_rd W' 22 9 5 Try.underlying22 Try.underlying5 Try.underlying9 _ _ (rz.below hW')
    have HCZ := Lib.hid hcz
    clear rz hcz
    clear hy E1
    refine hK.out _ _ C2.out (fun _ => ?_)
    clear hK K
    refine wpAnyH_mono (S' := (fun w' : World => Below Y2.heap.size Y2 w')) (fun w1 h => C2.out.trans (h.mono C2.out.size)) _ _ _ _ ?_
    clear C2
    try simp only [Act.put, List.setIfInBounds_toArray, List.set_cons_zero, List.set_cons_succ]
    refine wpAnyH_take (i := 23) (oi := { dst := some 50, op := Op.convert 22 9 (Operand.tmp 49), type := 9, pos := "law.go:33", after := #[{ on := 22, ground := Ground.data }, { on := 14, ground := Ground.guard }], guard := some (14, true) }) (v := ?_) rfl (by kernel_rfl) (by kernel_rfl) (by kernel_rfl) (fun _ _ _ h => h) (Or.inl ⟨by rfl, ?_⟩) (Below.refl _ _) ?_
    rotate_left
    · (intro w1 hS; have hW := E2.out.trans (hS.mono E2.out.size); have q := HCZ.out w1 hS; clear hW hS; go_simp; try with_reducible rfl)
    simp only [Act.put, List.setIfInBounds_toArray, List.set_cons_zero, List.set_cons_succ]
    refine wpAnyH_take (i := 24) (oi := { dst := some 51, op := Op.binOp BinOp.eql 9 (Operand.tmp 45) (Operand.tmp 50) 9, type := 4, pos := "law.go:33", after := #[{ on := 18, ground := Ground.data }, { on := 23, ground := Ground.data }, { on := 14, ground := Ground.guard }], guard := some (14, true) }) (v := ?_) rfl (by kernel_rfl) (by kernel_rfl) (by kernel_rfl) (fun _ _ _ h => h) (Or.inl ⟨by rfl, ?_⟩) (Below.refl _ _) ?_
    rotate_left
    · (intro w1 hS; go_simp; try with_reducible rfl)
    simp only [Act.put, List.setIfInBounds_toArray, List.set_cons_zero, List.set_cons_succ]
    refine wpAnyH_take (i := 25) (oi := { dst := some 52, op := Op.pick (Operand.tmp 41) (Operand.tmp 51) (Operand.const (Value.bool false)), type := 4, pos := "law.go:33", after := #[{ on := 14, ground := Ground.data }, { on := 24, ground := Ground.data }], guard := none }) (v := ?_) rfl (by kernel_rfl) (by kernel_rfl) (by kernel_rfl) (fun _ _ _ h => h) (Or.inl ⟨by rfl, ?_⟩) (Below.refl _ _) ?_
    rotate_left
    · (intro w1 hS; go_simp; try with_reducible rfl)
    simp only [Act.put, List.setIfInBounds_toArray, List.set_cons_zero, List.set_cons_succ]
    refine wpAnyH_take (i := 26) (oi := { dst := some 53, op := Op.move (Operand.tmp 52), type := 4, pos := "law.go:33", after := #[{ on := 25, ground := Ground.data }, { on := 22, ground := Ground.chain }], guard := none }) (v := ?_) rfl (by kernel_rfl) (by kernel_rfl) (by kernel_rfl) (fun _ _ _ h => h) (Or.inl ⟨by rfl, ?_⟩) (Below.refl _ _) ?_
    rotate_left
    · (intro w1 hS; go_simp; try with_reducible rfl)
    simp only [Act.put, List.setIfInBounds_toArray, List.set_cons_zero, List.set_cons_succ]
    refine wpAnyH_ready (rs := [27]) (by kernel_rfl) (by simp) ?_
    refine AllReadyH.cons (o := { dst := some 54, op := Op.call { callee := Callee.value (Operand.func 7), args := #[], argTypes := #[] }, type := 4, pos := "law.go:33", after := #[{ on := 26, ground := Ground.chain }, { on := 26, ground := Ground.guard }], guard := some (26, true) }) rfl (fun K hK => ?_) AllReadyH.nil
    go_simp
    refine (awake_any Y2).mono ?_
    rintro e Y3 ⟨rfl, hy⟩
    have E3 := Lib.hid (E2.out.trans (hy.mono E2.out.size))
    have C3 := Lib.hid hy
    clear hy E2
    refine hK.out _ _ C3.out (fun _ => ?_)
    clear hK K
    refine wpAnyH_mono (S' := (fun w' : World => Below Y3.heap.size Y3 w')) (fun w1 h => C3.out.trans (h.mono C3.out.size)) _ _ _ _ ?_
    clear C3
    try simp only [Act.put, List.setIfInBounds_toArray, List.set_cons_zero, List.set_cons_succ]
    refine wpAnyH_take (i := 28) (oi := { dst := some 55, op := Op.pick (Operand.tmp 53) (Operand.tmp 54) (Operand.const (Value.bool false)), type := 4, pos := "law.go:33", after := #[{ on := 26, ground := Ground.data }, { on := 27, ground := Ground.data }], guard := none }) (v := ?_) rfl (by kernel_rfl) (by kernel_rfl) (by kernel_rfl) (fun _ _ _ h => h) (Or.inl ⟨by rfl, ?_⟩) (Below.refl _ _) ?_
    rotate_left
    · (intro w1 hS; go_simp; try with_reducible rfl)
    simp only [Act.put, List.setIfInBounds_toArray, List.set_cons_zero, List.set_cons_succ]
    refine wpAnyH_take (i := 29) (oi := { dst := some 4, op := Op.assign (Operand.tmp 55), type := 4, pos := "law.go:33", after := #[{ on := 28, ground := Ground.data }, { on := 27, ground := Ground.chain }, { on := 0, ground := Ground.phase }, { on := 1, ground := Ground.phase }, { on := 2, ground := Ground.phase }, { on := 3, ground := Ground.phase }, { on := 4, ground := Ground.phase }, { on := 5, ground := Ground.phase }, { on := 6, ground := Ground.phase }, { on := 7, ground := Ground.phase }, { on := 8, ground := Ground.phase }, { on := 9, ground := Ground.phase }, { on := 10, ground := Ground.phase }, { on := 11, ground := Ground.phase }, { on := 12, ground := Ground.phase }, { on := 13, ground := Ground.phase }, { on := 14, ground := Ground.phase }, { on := 15, ground := Ground.phase }, { on := 16, ground := Ground.phase }, { on := 17, ground := Ground.phase }, { on := 18, ground := Ground.phase }, { on := 19, ground := Ground.phase }, { on := 20, ground := Ground.phase }, { on := 21, ground := Ground.phase }, { on := 22, ground := Ground.phase }, { on := 23, ground := Ground.phase }, { on := 24, ground := Ground.phase }, { on := 25, ground := Ground.phase }, { on := 26, ground := Ground.phase }, { on := 27, ground := Ground.phase }, { on := 28, ground := Ground.phase }], guard := none }) (v := ?_) rfl (by kernel_rfl) (by kernel_rfl) (by kernel_rfl) (fun _ _ _ h => h) (Or.inl ⟨by rfl, ?_⟩) (Below.refl _ _) ?_
    rotate_left
    · (intro w1 hS; go_simp; try with_reducible rfl)
    simp only [Act.put, List.setIfInBounds_toArray, List.set_cons_zero, List.set_cons_succ]
    refine wpAnyH_done (by kernel_rfl) ?_ _
    go_wp2
    go_ret
    exact ⟨rfl, B1.out.trans (E3.out.mono B1.out.size)⟩
end Go.Proofs.Ythbkboheeelbiaa
