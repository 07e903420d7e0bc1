/- Texts that the walks of this seat lean on, put together: each has its own remark below. -/
import Derived.Handy
import Derived.BigQuiet
import Derived.Deep.QuietTactic
import Derived.LoopTactic
import Derived.Lib.Hide
import Derived.WalkKit
import Derived.WalkSmall
import Derived.Lib.QuietBelow
import Derived.Test.YtnfanenaighflaaM01
import Derived.Test.YtnfanenaighflaaM02

/- copy into a part of a row of the call's own. -/
namespace Go.Proofs.Ytnfanenaighflaa
open Go.RowKit

theorem splice_nus (k : IntKind) (zs ts : List Nat) (off : Nat) : splice (nus k zs) off (nus k ts) = nus k (ov zs ts off) := by
  unfold splice ov
  rw [nus_length]
  simp [nus, List.map_take, List.map_drop]
theorem splice_take (cur cs : List Value) (off n : Nat) (h : off + cs.length ≤ n) (hn : n ≤ cur.length) : (splice cur off cs).take n = splice (cur.take n) off cs := by
  have hl : (cur.take off).length = off := by simp; omega
  unfold splice
  rw [List.take_append, List.take_append, List.take_take, List.take_take, Nat.min_comm n off, List.drop_take]
  rw [hl, List.take_of_length_le (l := cs) (by omega), show n - off - cs.length = n - (off + cs.length) from by omega]
theorem copy_into {P : Program} {w : World} {ops : Array Oper} {rest : List Oper} {o : Oper} {a : Act} {Q : Exit → Act → World → Prop} (hgd : o.guard = none) (d s : Operand) (dT sT : TypeId)
    (ho : o.op = .call { callee := .builtin .copy, args := #[d, s], argTypes := #[dT, sT] }) (elem : TypeId) (hu : P.underlying dT = some (.slice elem)) (hsz : (P.info? elem).map (·.size) = some 1)
    (g off n cap base dLen dCap : Nat) (e : TypeId) (k : IntKind) (zs ts : List Nat) (sp : Option Addr) (sLen sCap : Nat) (hd : a.eval d = .slice (some ⟨g, off, none⟩) dLen dCap) (hs : a.eval s = .slice sp sLen sCap)
    (hown : w.ownsRow base e 1 (.slice (some ⟨g, 0, none⟩) n cap) n (nus k zs)) (hr : Rd w (.slice sp sLen sCap) (nus k ts)) (hfit : off + sLen ≤ n) (hdl : sLen ≤ dLen)
    (h : ∀ w', Hid (w'.ownsRow base e 1 (.slice (some ⟨g, 0, none⟩) n cap) n (nus k (ov zs ts off))) → w.grownBy w' (some g) → wpList P ops Q rest (a.put o.dst (goInt sLen)) w') :
    wpList P ops Q (o :: rest) a w := by
  have hr0 := hr
  obtain ⟨a', c', ee, h1, h2, h3⟩ := hr0
  simp only [Value.slice.injEq, nus_length] at ee
  obtain ⟨rfl, rfl, rfl⟩ := ee
  obtain ⟨hxl, ⟨h0, -⟩ | ⟨g', cap', cur, hv, hb, hh, hnc, hcm, hcs, ht⟩⟩ := hown
  · cases h0
  simp only [Value.slice.injEq, Option.some.injEq, Addr.mk.injEq, and_true, true_and] at hv
  obtain ⟨rfl, rfl⟩ := hv
  simp only [Nat.mul_one] at hxl hcs ht
  have hcl : cur.toList.length = cap := by simpa using hcs
  refine copy_grown hgd d s dT sT ho elem hu hsz _ sp dLen dCap ts.length sCap hd hs g off cur.toList e (by simpa using hh) (nus k ts) (by rw [nus_length]; exact (Nat.min_eq_left hdl).symm) ?_ (by rw [nus_length, hcl]; omega) (oneCell_nus _ _) ?_
  · intro h0
    obtain ⟨ad, he, hc⟩ := hr.src h0
    exact ⟨rfl, ad, he, hc⟩
  · intro w' hg hgr
    have hgo : goInt (nus k ts).length = goInt ts.length := by rw [nus_length]
    rw [hgo]
    refine h w' ⟨?_, .inr ⟨g, cap, (splice cur.toList off (nus k ts)).toArray, rfl, hb, hg.out, hnc, hcm, ?_, ?_⟩⟩ hgr
    · rw [nus_length] at hxl ⊢
      rw [ov_length _ _ _ (by omega), hxl, Nat.mul_one]
    · rw [Nat.mul_one, List.size_toArray]
      unfold splice
      simp only [List.length_append, List.length_take, List.length_drop, nus_length, hcl]
      omega
    · rw [Nat.mul_one, splice_take _ _ _ _ (by rw [nus_length]; exact hfit) (by omega), ht, splice_nus]
end Go.Proofs.Ytnfanenaighflaa

/- copy into a part of a row of the call's own, where an operation alone is looked at. Nothing of the program. -/
namespace Go.Proofs.Ytnfanenaighflaa
open Go.RowKit

theorem wp_copy_into {P : Program} {w : World} {K : Act → World → Prop} {Q : Exit → Act → World → Prop} {o : Oper} {a : Act} (d s : Operand) (dT sT : TypeId)
    (ho : o.op = .call { callee := .builtin .copy, args := #[d, s], argTypes := #[dT, sT] }) (elem : TypeId) (hu : P.underlying dT = some (.slice elem)) (hsz : (P.info? elem).map (·.size) = some 1)
    (g off n cap base dLen dCap : Nat) (e : TypeId) (k : IntKind) (zs ts : List Nat) (sp : Option Addr) (sLen sCap : Nat) (hd : a.eval d = .slice (some ⟨g, off, none⟩) dLen dCap) (hs : a.eval s = .slice sp sLen sCap)
    (hown : w.ownsRow base e 1 (.slice (some ⟨g, 0, none⟩) n cap) n (nus k zs)) (hr : Rd w (.slice sp sLen sCap) (nus k ts)) (hfit : off + sLen ≤ n) (hdl : sLen ≤ dLen) (h0 : 0 < sLen)
    (h : ∀ w', Hid (w'.ownsRow base e 1 (.slice (some ⟨g, 0, none⟩) n cap) n (nus k (ov zs ts off))) → w.grownBy w' (some g) → K (a.put o.dst (goInt sLen)) w') :
    o.wp P a w K Q := by
  have hr0 := hr
  obtain ⟨a', c', ee, h1, h2, h3⟩ := hr0
  simp only [Value.slice.injEq, nus_length] at ee
  obtain ⟨rfl, rfl, rfl⟩ := ee
  obtain ⟨hxl, ⟨h0', -⟩ | ⟨g', cap', cur, hv, hb, hh, hnc, hcm, hcs, ht⟩⟩ := hown
  · cases h0'
  simp only [Value.slice.injEq, Option.some.injEq, Addr.mk.injEq, and_true, true_and] at hv
  obtain ⟨rfl, rfl⟩ := hv
  simp only [Nat.mul_one] at hxl hcs ht
  have hcl : cur.toList.length = cap := by simpa using hcs
  obtain ⟨ad, rfl, hc⟩ := hr.src (by rw [nus_length]; exact h0)
  have hrun := run_copy_row (P := P) w dT sT o.type elem g off dLen dCap ad ts.length sCap cur e (nus k ts) hu hsz hh (by rw [nus_length]; exact (Nat.min_eq_left hdl).symm) hc (by rw [nus_length, hcs]; omega) (oneCell_nus _ _)
  unfold Oper.wp
  simp [execOp, ho, resolve, invoke, builtin, hd, hs, hrun, Result.andThen]
  rw [nus_length]
  refine h _ ⟨?_, .inr ⟨g, cap, (splice cur.toList off (nus k ts)).toArray, rfl, hb, ?_, hnc, hcm, ?_, ?_⟩⟩ ⟨rfl, rfl, rfl, by simp [World.setRow], fun k _ hk => setRow_other w g k _ (fun e => hk (by rw [e]))⟩
  · rw [nus_length] at hxl ⊢
    rw [ov_length _ _ _ (by omega), hxl, Nat.mul_one]
  · simpa [splice, nus_length] using setRow_heap w g _ _ e _ hh
  · rw [Nat.mul_one, List.size_toArray]
    unfold splice
    simp only [List.length_append, List.length_take, List.length_drop, nus_length, hcl]
    omega
  · rw [Nat.mul_one, splice_take _ _ _ _ (by rw [nus_length]; exact hfit) (by omega), ht, splice_nus]
end Go.Proofs.Ytnfanenaighflaa

/- ipsix.Dest. -/
namespace Go.Proofs.Ytnfanenaighflaa
open Go.RowKit

set_option maxHeartbeats 1000000 in
theorem dest_no (v : Value) (zs : List Nat) (six : Bool) (bs : List Nat) (w : World) (hr : Rd w v (nus .u8 zs)) (hb : ∀ c ∈ zs, c < 256) (h : f6 zs ≠ 0 ∨ six = false) :
    Calls Try.prog 13 #[v, adr six bs] w fun e w' => e = .returned (.slice none 0 0) ∧ Below w.heap.size w w' := by
  obtain ⟨a, cap, rfl, -, -⟩ := rd_shape hr
  unfold adr
  obtain ⟨c, hc⟩ : ∃ c, c = cellsA six bs := ⟨_, rfl⟩
  have hc0 : c[0]? = some (.bool six) := by rw [hc]; exact cellsA_head _ _
  rw [← hc]
  have B0 := (Below.refl w.heap.size w).alloc (Nat.le_refl _) (.cells c 25)
  have HF := Lib.hid (fault_any _ zs _ (hr.below B0) hb)
  have HN := Lib.hid (Blk.new w 25 c)
  have HB := Lib.hid B0
  have hlt := f6_lt zs
  generalize f6 zs = r at *
  generalize zs.length = n at *
  clear hr hb hc B0
  go_enter Try.func13, Try.ntmps13
  go_wp2_with fail
  refine HF.out.mono ?_; rintro e W1 ⟨rfl, rfl⟩
  clear HF
  have hc1 := HN.out.cell 0
  rw [hc0] at hc1
  by_cases hr0 : r = 0
  · obtain rfl : six = false := by rcases h with h | h; exact absurd hr0 h; exact h
    subst hr0
    clear h hc0
    go_wp2
    go_ret
    exact ⟨rfl, HB.out⟩
  · have g0 : ((r : Int) != 0) = true := by simp; omega
    clear h hr0 hc0 hc1
    go_wp2
    go_ret
    exact ⟨rfl, HB.out⟩
/-- The packet with another destination. -/
def dst6 (zs t : List Nat) : List Nat := ov zs t 24

set_option maxRecDepth 100000 in
set_option maxHeartbeats 2000000 in
theorem dest_yes (v : Value) (zs : List Nat) (bs : List Nat) (w : World) (hr : Rd w v (nus .u8 zs)) (hb : ∀ c ∈ zs, c < 256) (h : f6 zs = 0) (hz : zs.length ≤ 140737488351232) (hl : bs.length = 16) :
    Calls Try.prog 13 #[v, adr true bs] w fun e w' => ∃ x, e = .returned x ∧ w'.ownsRow w.heap.size 5 1 x zs.length (nus .u8 (dst6 zs bs)) ∧ Below w.heap.size w w' := by
  obtain ⟨h40, -, -, -⟩ := f6_yes zs h
  obtain ⟨a, cap, rfl, hlc, hlm⟩ := rd_shape hr
  obtain ⟨b, off, rfl, hce⟩ := hr.cells (by omega)
  have CB := Lib.hid (fun w' => bytes_own true bs hl w')
  unfold bytesA at CB
  rw [if_pos rfl, hl] at CB
  unfold adr at CB ⊢
  obtain ⟨c, hc⟩ : ∃ c, c = cellsA true bs := ⟨_, rfl⟩
  have hc0 := Lib.hid (show c[0]? = some (.bool true) by rw [hc]; exact cellsA_head _ _)
  have hcz : c.size = 17 := by rw [hc, cellsA_size, hl]
  rw [← hc] at CB ⊢
  have I := Lib.hid (i24.trans (congrArg some hcz.symm))
  have CF := Lib.hid (fun W (h : Rd W (.slice (some ⟨b, off, none⟩) zs.length cap) (nus .u8 zs)) => fault_any _ zs W h hb)
  rw [h] at CF
  have CC := Lib.hid (fun W h => clone_any ⟨b, off, none⟩ cap zs W h (by omega) (by omega))
  have K := Lib.hid (Below.refl w.heap.size w)
  have HR := Lib.hid hr
  have HD : Hid (dst6 zs bs = ov zs bs 24) := rfl
  have hhl : zs.length ≤ maxLen := by unfold maxLen; omega
  generalize dst6 zs bs = RES at *
  generalize zs.length = n at *
  unfold maxLen at hlm
  clear hr hb hc hce hcz h
  go_enter Try.func13, Try.ntmps13
  have hal := (Below.refl w.heap.size w).alloc (Nat.le_refl _) (.cells c 25)
  replace K := Lib.hid (K.out.trans (hal.mono K.out.size))
  have N := Lib.hid (Blk.new w 25 c)
  clear hal
  go_wp2_with fail
  generalize (w.alloc (.cells c 25)) = V1 at *
  refine (CF.out _ (HR.out.below K.out)).mono ?_
  rintro e V2 ⟨rfl, rfl⟩
  have hcc := (N.out.cell 0).trans hc0.out
  go_wp2_with fail
  have hw1 : w.heap.size ≤ V1.heap.size := K.out.size
  have hN1 : w.heap.size < V1.heap.size := N.out.lt
  refine (CC.out _ (HR.out.below K.out)).mono ?_
  rintro e V3 ⟨x, rfl, hx, hy⟩
  replace K := Lib.hid (K.out.trans (hy.mono K.out.size))
  replace N := Lib.hid (N.out.below hy N.out.lt)
  have O := Lib.hid (hx)
  clear hx
  clear hy
  obtain ⟨g, cx, rfl, hcx, hcxm, hgl, hgu⟩ := own_at O.out (by omega)
  have hlow : g ≤ V3.heap.size := Nat.le_of_lt hgu
  have hNg : w.heap.size + 0 < g := Nat.lt_of_lt_of_le hN1 hgl
  clear hcc
  go_wp2_with fail
  refine wp_region_held (S := (fun w' : World => Below (g) V3 w')) (by kernel_rfl) ?_
  change wpAnyH _ _ _ _ _ _ _ _ V3.drew
  have hy : Below V3.heap.size V3 V3.drew := (Below.refl _ _).drew
  have hE0 : Below (g) V3 V3.drew := (Below.refl _ _).drew
  replace O := Lib.hid (row_under O.out hy)
  clear hy
  generalize V3.drew = Y4x0 at hE0 O ⊢
  have E0 := Lib.hid hE0
  clear hE0
  refine wpAnyH_take (i := 0) (oi := { dst := some 16, op := Op.move (Operand.tmp 5), type := 22, pos := "ipsix.go:79", after := #[], guard := none }) (v := ?_) rfl (by kernel_rfl) (by kernel_rfl) (by kernel_rfl) (fun _ _ _ h => h) (Or.inl ⟨by rfl, ?_⟩) E0.out ?_
  rotate_left
  · (intro w1 hS; go_simp; try with_reducible rfl)
  simp only [Act.put, List.setIfInBounds_toArray, List.set_cons_zero, List.set_cons_succ]
  refine wpAnyH_take (i := 1) (oi := { dst := some 17, op := Op.slice 22 (Operand.tmp 16) (some (Operand.const (Value.int IntKind.i64 24))) none none, type := 22, pos := "ipsix.go:79", after := #[{ on := 0, ground := Ground.data }], guard := none }) (v := ?_) rfl (by kernel_rfl) (by kernel_rfl) (by kernel_rfl) (fun _ _ _ h => h) (Or.inl ⟨by rfl, ?_⟩) E0.out ?_
  rotate_left
  · (intro w1 hS; have hW := hS; have q : (24 : Int) ≤ (n : Int) := (by omega); have q2 : (cx = 24) = False := (eq_false (by omega)); have q3 : (n : Int) ≤ (cx : Int) := (by omega); clear hW hS; go_simp; try with_reducible rfl)
  simp only [Act.put, List.setIfInBounds_toArray, List.set_cons_zero, List.set_cons_succ]
  refine wpAnyH_take (i := 2) (oi := { dst := some 18, op := Op.load 25 (Operand.tmp 3), type := 25, pos := "ipsix.go:79", after := #[], guard := none }) (v := .agg c) rfl (by kernel_rfl) (by kernel_rfl) (by kernel_rfl) (fun _ _ _ h => h) (Or.inl ⟨by rfl, ?_⟩) E0.out ?_
  · (intro w1 hS; have hW := hS; exact exec_load 25 (.tmp 3) rfl _ rfl _ (run_blk_load (P := Try.prog) 25 (w.heap.size) _ (N.out.below hW (by omega)) Try.underlying25 rfl I.out))
  simp only [Act.put, List.setIfInBounds_toArray, List.set_cons_zero, List.set_cons_succ]
  refine wpAnyH_ready (rs := [3]) (by kernel_rfl) (by simp) ?_
  refine AllReadyH.cons (o := { dst := some 19, op := Op.call { callee := Callee.value (Operand.func 24), args := #[Operand.tmp 18], argTypes := #[25] }, type := 22, pos := "ipsix.go:79", after := #[{ on := 2, ground := Ground.data }], guard := none }) rfl (fun K hK => ?_) AllReadyH.nil
  go_simp
  refine (CB.out Y4x0).mono ?_
  rintro e Y4x1 ⟨z, rfl, hz, hy⟩
  replace O := Lib.hid (row_under O.out hy)
  have E1 := Lib.hid (E0.out.trans (hy.mono (Nat.le_trans hlow E0.out.size)))
  have C1 := Lib.hid E1.out
  have Z := Lib.hid (hz)
  clear hy E0
  refine hK.out _ _ C1.out (fun _ => ?_)
  clear hK K
  clear C1
  try simp only [Act.put, List.setIfInBounds_toArray, List.set_cons_zero, List.set_cons_succ]
  obtain ⟨gz, cz, rfl, -, -, -, -⟩ := own_at Z.out (by omega)
  refine wpAnyH_ready (rs := [4]) (by kernel_rfl) (by simp) ?_
  refine AllReadyH.cons (o := { dst := some 20, op := Op.call { callee := Callee.builtin Builtin.copy, args := #[Operand.tmp 17, Operand.tmp 19], argTypes := #[22, 22] }, type := 3, pos := "ipsix.go:79", after := #[{ on := 1, ground := Ground.data }, { on := 3, ground := Ground.data }, { on := 3, ground := Ground.chain }], guard := none }) rfl (fun K hK => ?_) AllReadyH.nil
  rw [if_pos (by rfl)]
  refine wp_copy_into (.tmp 17) (.tmp 19) 22 22 rfl 5 Try.underlying22 Try.size5 g 24 n cx _ (n - 24) (cx - 24) 5 .u8 zs bs (some ⟨gz, 0, none⟩) 16 cz rfl rfl O.out (Rd.own Z.out) (by omega) (by omega) (by omega) ?_
  intro Y4x2 oz gz
  clear Z
  replace O := oz
  have E2 := Lib.hid (E1.out.grown gz (Nat.le_trans hlow E1.out.size) (fun k e => by cases e; first | exact Nat.le_refl _ | omega))
  have C2 := Lib.hid E2.out
  clear gz E1
  refine hK.out _ _ C2.out (fun _ => ?_)
  clear hK K
  clear C2
  try simp only [Act.put, List.setIfInBounds_toArray, List.set_cons_zero, List.set_cons_succ]
  refine wpAnyH_done (by kernel_rfl) ?_ _
  replace K := Lib.hid (K.out.trans (E2.out.mono (by omega)))
  replace N := Lib.hid (N.out.below E2.out (by omega))
  clear E2
  rw [← HD.out] at O
  go_wp2
  go_ret
  exact ⟨_, rfl, own_low hw1 O.out, K.out⟩
end Go.Proofs.Ytnfanenaighflaa

/- The contract of octet.Put at 16 binary digits, into a row of the call that called it. -/
namespace Go.Proofs.Ytnfanenaighflaa
open Go.RowKit

set_option maxHeartbeats 400000 in
theorem put16_yes (g n cap base : Nat) (k v : Nat) (zs : List Nat) (w : World) (hown : w.ownsRow base 5 1 (.slice (some ⟨g, 0, none⟩) n cap) n (nus .u8 zs)) (hn : n ≤ maxLen) (hk : k + 2 ≤ n) (hv : v < 65536) :
    Calls Try.prog 23 #[.slice (some ⟨g, 0, none⟩) n cap, .int .i64 k, .int .u16 v] w fun e w' => e = .returned (.bool true) ∧ w'.ownsRow base 5 1 (.slice (some ⟨g, 0, none⟩) n cap) n (nus .u8 (putRow zs k 2 v 2)) ∧ w.grownBy w' (some g) := by
  have hzl : zs.length = n := by have := hown.1; simpa [nus_length] using this
  unfold maxLen at hn
  have hfit : decide ((k : Int) ≤ (n : Int) - 2) = true := by simp; omega
  have HO := Lib.hid hown
  have HZ := Lib.hid hzl
  clear hown hzl
  go_enter Try.func23, Try.ntmps23
  go_wp2_with (first
    | (go_at_call 28; refine (fits16_pos _ _ _ _ _ (by unfold maxLen; omega) (by omega)).mono ?_; rintro e w' ⟨rfl, rfl⟩; rw [hfit])
    | (go_at_call 29; refine (size16_any _).mono ?_; rintro e w' ⟨rfl, rfl⟩))
  go_loopw [7, 8] (fun r i wr => ∃ j : Nat, j ≤ 2 ∧ r = .int .u64 ((v / 256 ^ j : Nat) : Int) ∧ i = .int .i64 ((k : Int) + 2 - 1 - j) ∧ wr.ownsRow base 5 1 (.slice (some ⟨g, 0, none⟩) n cap) n (nus .u8 (putRow zs k 2 v j)) ∧ w.grownBy wr (some g)) (fun _ i _ => (intOf i + 1 - k).toNat)
  case atStart => exact ⟨0, by omega, by simp, by simp, by rw [putRow_zero]; exact HO.out, World.grownBy.refl _ _⟩
  case round =>
    obtain ⟨j, hj, rfl, rfl, hown, hgr⟩ := hrel
    by_cases h1 : j < 2
    · obtain ⟨r, hr⟩ : ∃ r, r = v / 256 ^ j := ⟨_, rfl⟩
      obtain ⟨p, hp⟩ : ∃ p : Nat, (k : Int) + 2 - 1 - j = p := ⟨k + 2 - 1 - j, by omega⟩
      have hpk : k ≤ p ∧ p < k + 2 := by omega
      have hrv : r < 18446744073709551616 := by have := Nat.div_le_self v (256 ^ j); omega
      have hcell := hown.cellAt p (by omega)
      rw [nus_get _ _ _ (by rw [putRow_length _ _ _ _ _ (by rw [HZ.out]; exact hk) hj, HZ.out]; omega)] at hcell
      have hfz := hown.frozenAt p
      have hst := hown.stored p (.int .u8 ((r % 256 : Nat) : Int))
      have hstep := putRow_step zs k 2 v j (by rw [HZ.out]; exact hk) h1
      rw [← hr, show k + 2 - 1 - j = p from by omega] at hstep
      rw [nus_set, hstep] at hst
      have hr2 : r / 256 = v / 256 ^ (j + 1) := by rw [hr, Nat.div_div_eq_div_mul, Nat.pow_succ]
      rw [← hr, hp]
      obtain ⟨x, hx⟩ : ∃ x, x = (putRow zs k 2 v j).getD p 0 := ⟨_, rfl⟩
      rw [← hx] at hcell
      have HS := Lib.hid hst
      have HP := Lib.hid hp
      have HR := Lib.hid hr2
      clear hown hst hstep hp hr hr2 hx
      go_wp2
      go_roundw
      case rel => exact ⟨j + 1, by omega, by rw [← HR.out]; go_num, by have := HP.out; go_num, HS.out.1, grownBy_trans hgr HS.out.2⟩
      case measure => have := HP.out; simp [intOf]; omega
    · obtain rfl : j = 2 := by omega
      go_wp2
      go_ret
      exact ⟨rfl, hown, hgr⟩
set_option maxHeartbeats 400000 in
theorem put16_no (a : Option Addr) (len cap : Nat) (at0 v : Int) (w : World) (hl : len ≤ maxLen) (h : at0 < 0 ∨ (len : Int) < at0 + 2) :
    Calls Try.prog 23 #[.slice a len cap, .int .i64 at0, .int .u16 v] w fun e w' => e = .returned (.bool false) ∧ w = w' := by
  by_cases h0 : at0 < 0
  · go_enter Try.func23, Try.ntmps23
    go_wp2_with (go_at_call 28; refine (fits16_neg _ _ _ _ _ (by omega)).mono ?_; rintro e w' ⟨rfl, rfl⟩)
    go_ret
    exact ⟨rfl, rfl⟩
  · have hfit : decide (at0 ≤ (len : Int) - 2) = false := by simp; omega
    go_enter Try.func23, Try.ntmps23
    go_wp2_with (go_at_call 28; refine (fits16_pos _ _ _ _ _ hl (by omega)).mono ?_; rintro e w' ⟨rfl, rfl⟩; rw [hfit])
    go_ret
    exact ⟨rfl, rfl⟩
end Go.Proofs.Ytnfanenaighflaa

/- ipsix.Make. -/
namespace Go.Proofs.Ytnfanenaighflaa
open Go.RowKit

theorem own_in {w : World} {base n g cap : Nat} {e : TypeId} {xs : List Value} (h : w.ownsRow base e 1 (.slice (some ⟨g, 0, none⟩) n cap) n xs) : g < w.heap.size := by
  rcases h.2 with ⟨h1, -⟩ | ⟨g', c', cur, hv, -, h2, -⟩
  · cases h1
  · cases hv
    exact (Array.getElem?_eq_some_iff.1 h2).1
/-- A header. -/
def mk6 (s d : List Nat) (p n : Nat) : List Nat := [96, 0, 0, 0] ++ bg 2 n ++ [p, 64] ++ s ++ d
/-- Whether a header is made. -/
def mkOk (six1 six2 : Bool) (n : Int) : Bool := six1 && six2 && decide (0 ≤ n) && decide (n ≤ 65535)
theorem mk6_steps (s d : List Nat) (hs : s.length = 16) (hd : d.length = 16) (p n : Nat) :
    ov (ov (((putRow ((List.replicate 40 0).set 0 96) 4 2 n 2).set 6 p).set 7 64) s 8) d 24 = mk6 s d p n := by
  obtain ⟨s0, s1, s2, s3, s4, s5, s6, s7, s8, s9, s10, s11, s12, s13, s14, s15, rfl⟩ := list16 s hs
  obtain ⟨d0, d1, d2, d3, d4, d5, d6, d7, d8, d9, d10, d11, d12, d13, d14, d15, rfl⟩ := list16 d hd
  rfl
theorem mk6_length (s d : List Nat) (hs : s.length = 16) (hd : d.length = 16) (p n : Nat) : (mk6 s d p n).length = 40 := by simp [mk6, bg_length, hs, hd]
theorem mk6_lt (s d : List Nat) (p n : Nat) (hs : ∀ c ∈ s, c < 256) (hd : ∀ c ∈ d, c < 256) (hp : p < 256) : ∀ c ∈ mk6 s d p n, c < 256 := by
  intro c hc
  unfold mk6 at hc
  simp only [List.mem_append] at hc
  rcases hc with (((h | h) | h) | h) | h
  · simp at h; omega
  · exact bg_lt 2 _ c h
  · simp at h; omega
  · exact hs c h
  · exact hd c h

set_option maxHeartbeats 1000000 in
theorem make_no (six1 six2 : Bool) (sb db : List Nat) (p : Int) (n : Int) (w : World) (h : mkOk six1 six2 n = false) :
    Calls Try.prog 11 #[adr six1 sb, adr six2 db, .int .u8 p, .int .i64 n] w fun e w' => e = .returned (.tuple #[.slice none 0 0, .bool false]) ∧ Below w.heap.size w w' := by
  unfold adr
  have e1 : (cellsA six1 sb)[0]? = some (.bool six1) := cellsA_head _ _
  have e2 : (cellsA six2 db)[0]? = some (.bool six2) := cellsA_head _ _
  generalize cellsA six1 sb = c1 at *
  generalize cellsA six2 db = c2 at *
  have B1 := (Below.refl w.heap.size w).alloc (Nat.le_refl _) (.cells c1 25)
  have HB := Lib.hid (B1.alloc B1.size (.cells c2 25))
  have hc1 := (((Blk.new w 25 c1).alloc (.cells c2 25)).cell 0).trans e1
  have hc2 := ((Blk.new (w.alloc (.cells c1 25)) 25 c2).cell 0).trans e2
  rw [World.size_alloc] at hc2
  unfold mkOk at h
  clear e1 e2 B1
  go_enter Try.func11, Try.ntmps11
  cases six1 with
  | false =>
    clear h
    go_wp2
    go_ret2
    exact ⟨rfl, HB.out⟩
  | true =>
    cases six2 with
    | false =>
      clear h
      go_wp2
      go_ret2
      exact ⟨rfl, HB.out⟩
    | true =>
      by_cases h0 : n < 0
      · clear h
        go_wp2
        go_ret2
        exact ⟨rfl, HB.out⟩
      · have h5 : 65535 < n := by
          rcases Int.lt_or_le 65535 n with h' | h'
          · exact h'
          · simp at h; omega
        clear h
        go_wp2
        go_ret2
        exact ⟨rfl, HB.out⟩

set_option maxRecDepth 100000 in
set_option maxHeartbeats 4000000 in
theorem make_yes (sb db : List Nat) (p n : Nat) (w : World) (hl1 : sb.length = 16) (hl2 : db.length = 16) (hn : n ≤ 65535) :
    Calls Try.prog 11 #[adr true sb, adr true db, .int .u8 (p : Int), .int .i64 (n : Int)] w fun e w' => ∃ x, e = .returned (.tuple #[x, .bool true]) ∧ w'.ownsRow w.heap.size 5 1 x 40 (nus .u8 (mk6 sb db p n)) ∧ Below w.heap.size w w' := by
  have CS := Lib.hid (fun w' => bytes_own true sb hl1 w')
  have CD := Lib.hid (fun w' => bytes_own true db hl2 w')
  unfold bytesA at CS CD
  rw [if_pos rfl, hl1] at CS
  rw [if_pos rfl, hl2] at CD
  unfold adr at CS CD ⊢
  have E1 := Lib.hid (show (cellsA true sb)[0]? = some (.bool true) from cellsA_head _ _)
  have E2 := Lib.hid (show (cellsA true db)[0]? = some (.bool true) from cellsA_head _ _)
  have z1 : (cellsA true sb).size = 17 := by rw [cellsA_size, hl1]
  have z2 : (cellsA true db).size = 17 := by rw [cellsA_size, hl2]
  have I1 := Lib.hid (i24.trans (congrArg some z1.symm))
  have I2 := Lib.hid (i24.trans (congrArg some z2.symm))
  have HM := Lib.hid (mk6_steps sb db hl1 hl2 p n)
  have hl1' := Lib.hid hl1
  have hl2' := Lib.hid hl2
  generalize mk6 sb db p n = M at *
  generalize cellsA true sb = c1 at *
  generalize cellsA true db = c2 at *
  have K := Lib.hid (Below.refl w.heap.size w)
  have hnw : IntKind.u16.wrap (n : Int) = (n : Int) := by rw [IntKind.wrap_u16]; omega
  clear z1 z2 hl1 hl2
  go_enter Try.func11, Try.ntmps11
  have hal := (Below.refl w.heap.size w).alloc (Nat.le_refl _) (.cells c1 25)
  replace K := Lib.hid (K.out.trans (hal.mono K.out.size))
  have N1 := Lib.hid (Blk.new w 25 c1)
  clear hal
  have hal := (Below.refl (w.alloc (.cells c1 25)).heap.size (w.alloc (.cells c1 25))).alloc (Nat.le_refl _) (.cells c2 25)
  replace K := Lib.hid (K.out.trans (hal.mono K.out.size))
  replace N1 := Lib.hid (N1.out.below hal N1.out.lt)
  have N2q := Blk.new (w.alloc (.cells c1 25)) 25 c2
  simp only [World.size_alloc] at N2q
  have N2 := Lib.hid N2q
  clear N2q
  clear hal
  have hc1 := (N1.out.cell 0).trans E1.out
  have hc2 := (N2.out.cell 0).trans E2.out
  obtain ⟨i0, hi, hz0, hz1, hz2⟩ := info_parts Try.info5
  have hbase : w.heap.size ≤ ((w.alloc (.cells c1 25)).alloc (.cells c2 25)).heap.size := K.out.size
  go_wp2_with ((at_make; refine wpList_make_full _ rfl _ _ 22 rfl w.heap.size 5 i0 (.int .u8 0) 1 Try.underlying22 hi hz0 hz1 .i64 .i64 _ _ 40 rfl rfl ?mk1a ?mk1b ?mk1c ?mk1d hbase ?_))
  generalize ((w.alloc (.cells c1 25)).alloc (.cells c2 25)) = V1 at *
  case mk1a => omega
  case mk1b => omega
  case mk1c => rw [hz2]; omega
  case mk1d => unfold maxLen; omega
  intro V2 o1 g1
  rw [toList_madeCells_one] at o1
  replace K := Lib.hid (K.out.grown g1 K.out.size (fun k e => by first | (cases e; done) | (cases e; first | exact Nat.le_refl _ | omega)))
  replace N1 := Lib.hid (show Blk _ _ _ _ from (g1.block _ N1.out.lt (by first | (simp; done) | (simp; omega))).trans N1.out)
  replace N2 := Lib.hid (show Blk _ _ _ _ from (g1.block _ N2.out.lt (by first | (simp; done) | (simp; omega))).trans N2.out)
  have O := Lib.hid (show V2.ownsRow w.heap.size 5 1 _ 40 (nus .u8 (List.replicate 40 0)) from o1)
  clear o1 g1 hi hz0 hz1 hz2 hbase
  obtain ⟨g, hg⟩ : ∃ g, g = w.heap.size + 1 + 1 := ⟨_, rfl⟩
  rw [← hg] at O ⊢
  have hg1 : w.heap.size < g := by omega
  have hg2 : w.heap.size + 1 < g := by omega
  clear hg hc1 hc2 E1 E2
  have h40m : 40 ≤ maxLen := by simp [maxLen]
  have L0 : Hid ((List.replicate 40 0).length = 40) := by show _ = _; simp
  have c0x := O.out.cellAt 0 (by omega)
  rw [nus_get _ _ _ (by have q := L0.out; omega)] at c0x
  have f0x := O.out.frozenAt 0
  generalize List.getD (List.replicate 40 0) 0 0 = y0x at c0x
  have hst0 := O.out.stored 0 (.int .u8 ((96 : Nat) : Int))
  rw [nus_set] at hst0
  have hst0 : (V2.setCell ⟨g, 0, none⟩ (.int .u8 96)).ownsRow w.heap.size 5 1 (.slice (some ⟨g, 0, none⟩) 40 40) 40 (nus .u8 (((List.replicate 40 0)).set 0 96)) ∧ V2.grownBy (V2.setCell ⟨g, 0, none⟩ (.int .u8 96)) (some g) := hst0
  have HST0 := Lib.hid hst0
  clear hst0
  go_wp2_with fail
  have gr := HST0.out.2
  replace K := Lib.hid (K.out.grown gr K.out.size (fun k e => by first | (cases e; done) | (cases e; first | exact Nat.le_refl _ | omega)))
  replace N1 := Lib.hid (show Blk _ _ _ _ from (gr.block _ N1.out.lt (by first | (simp; done) | (simp; omega))).trans N1.out)
  replace N2 := Lib.hid (show Blk _ _ _ _ from (gr.block _ N2.out.lt (by first | (simp; done) | (simp; omega))).trans N2.out)
  replace O := Lib.hid HST0.out.1
  clear gr HST0 c0x f0x
  generalize (V2.setCell ⟨g, 0, none⟩ (.int .u8 96)) = V3 at *
  go_wp2_with fail
  refine (put16_yes g 40 40 w.heap.size 4 n _ V3 O.out h40m (by omega) (by omega)).mono ?_
  rintro e V4 ⟨rfl, og, gr⟩
  replace K := Lib.hid (K.out.grown gr K.out.size (fun k e => by first | (cases e; done) | (cases e; first | exact Nat.le_refl _ | omega)))
  replace N1 := Lib.hid (show Blk _ _ _ _ from (gr.block _ N1.out.lt (by first | (simp; done) | (simp; omega))).trans N1.out)
  replace N2 := Lib.hid (show Blk _ _ _ _ from (gr.block _ N2.out.lt (by first | (simp; done) | (simp; omega))).trans N2.out)
  replace O := Lib.hid og
  clear og gr
  have hL : (putRow ((List.replicate 40 0).set 0 96) 4 2 n 2).length = 40 := by rw [putRow_length _ _ _ _ _ (by simp) (by omega)]; simp
  have L1 := Lib.hid hL
  clear hL
  generalize putRow ((List.replicate 40 0).set 0 96) 4 2 n 2 = Z at *
  have c6x := O.out.cellAt 6 (by omega)
  rw [nus_get _ _ _ (by have q := L1.out; omega)] at c6x
  have f6x := O.out.frozenAt 6
  generalize List.getD Z 6 0 = y6x at c6x
  have c7x := O.out.cellAt 7 (by omega)
  rw [nus_get _ _ _ (by have q := L1.out; omega)] at c7x
  have f7x := O.out.frozenAt 7
  generalize List.getD Z 7 0 = y7x at c7x
  have hst0 := O.out.stored 6 (.int .u8 ((p : Nat) : Int))
  rw [nus_set] at hst0
  have hst0 : (V4.setCell ⟨g, 6, none⟩ (.int .u8 (p : Int))).ownsRow w.heap.size 5 1 (.slice (some ⟨g, 0, none⟩) 40 40) 40 (nus .u8 ((Z).set 6 p)) ∧ V4.grownBy (V4.setCell ⟨g, 6, none⟩ (.int .u8 (p : Int))) (some g) := hst0
  have HST0 := Lib.hid hst0
  clear hst0
  have hst1 := HST0.out.1.stored 7 (.int .u8 ((64 : Nat) : Int))
  rw [nus_set] at hst1
  have hst1 : ((V4.setCell ⟨g, 6, none⟩ (.int .u8 (p : Int))).setCell ⟨g, 7, none⟩ (.int .u8 64)).ownsRow w.heap.size 5 1 (.slice (some ⟨g, 0, none⟩) 40 40) 40 (nus .u8 ((((Z).set 6 p)).set 7 64)) ∧ (V4.setCell ⟨g, 6, none⟩ (.int .u8 (p : Int))).grownBy ((V4.setCell ⟨g, 6, none⟩ (.int .u8 (p : Int))).setCell ⟨g, 7, none⟩ (.int .u8 64)) (some g) := hst1
  have HST1 := Lib.hid hst1
  clear hst1
  go_wp2_with fail
  have gr := (grownBy_trans HST0.out.2 HST1.out.2)
  replace K := Lib.hid (K.out.grown gr K.out.size (fun k e => by first | (cases e; done) | (cases e; first | exact Nat.le_refl _ | omega)))
  replace N1 := Lib.hid (show Blk _ _ _ _ from (gr.block _ N1.out.lt (by first | (simp; done) | (simp; omega))).trans N1.out)
  replace N2 := Lib.hid (show Blk _ _ _ _ from (gr.block _ N2.out.lt (by first | (simp; done) | (simp; omega))).trans N2.out)
  replace O := Lib.hid HST1.out.1
  clear gr HST0 HST1 c6x f6x c7x f7x
  generalize ((V4.setCell ⟨g, 6, none⟩ (.int .u8 (p : Int))).setCell ⟨g, 7, none⟩ (.int .u8 64)) = V5 at *
  have hlow : g ≤ V5.heap.size := Nat.le_of_lt (own_in O.out)
  go_wp2_with fail
  refine wp_region_held (S := (fun w' : World => Below (g) V5 w')) (by kernel_rfl) ?_
  change wpAnyH _ _ _ _ _ _ _ _ V5.drew
  have hy : Below V5.heap.size V5 V5.drew := (Below.refl _ _).drew
  have hE0 : Below (g) V5 V5.drew := (Below.refl _ _).drew
  replace O := Lib.hid (row_under O.out hy)
  clear hy
  generalize V5.drew = Y7x0 at hE0 O ⊢
  have E0 := Lib.hid hE0
  clear hE0
  refine wpAnyH_take (i := 0) (oi := { dst := some 39, op := Op.move (Operand.tmp 10), type := 22, pos := "ipsix.go:92", after := #[], guard := none }) (v := ?_) rfl (by kernel_rfl) (by kernel_rfl) (by kernel_rfl) (fun _ _ _ h => h) (Or.inl ⟨by rfl, ?_⟩) E0.out ?_
  rotate_left
  · (intro w1 hS; go_simp; try with_reducible rfl)
  simp only [Act.put, List.setIfInBounds_toArray, List.set_cons_zero, List.set_cons_succ]
  refine wpAnyH_take (i := 1) (oi := { dst := some 40, op := Op.slice 22 (Operand.tmp 39) (some (Operand.const (Value.int IntKind.i64 8))) none none, type := 22, pos := "ipsix.go:92", after := #[{ on := 0, ground := Ground.data }], guard := none }) (v := ?_) rfl (by kernel_rfl) (by kernel_rfl) (by kernel_rfl) (fun _ _ _ h => h) (Or.inl ⟨by rfl, ?_⟩) E0.out ?_
  rotate_left
  · (intro w1 hS; have hW := hS; have q : (8 : Int) ≤ (40 : Int) := (by omega); clear hW hS; go_simp; try with_reducible rfl)
  simp only [Act.put, List.setIfInBounds_toArray, List.set_cons_zero, List.set_cons_succ]
  refine wpAnyH_take (i := 2) (oi := { dst := some 41, op := Op.load 25 (Operand.tmp 4), type := 25, pos := "ipsix.go:92", after := #[], guard := none }) (v := .agg c1) rfl (by kernel_rfl) (by kernel_rfl) (by kernel_rfl) (fun _ _ _ h => h) (Or.inl ⟨by rfl, ?_⟩) E0.out ?_
  · (intro w1 hS; have hW := hS; exact exec_load 25 (.tmp 4) rfl _ rfl _ (run_blk_load (P := Try.prog) 25 (w.heap.size) _ (N1.out.below hW (by omega)) Try.underlying25 rfl I1.out))
  simp only [Act.put, List.setIfInBounds_toArray, List.set_cons_zero, List.set_cons_succ]
  refine wpAnyH_ready (rs := [3]) (by kernel_rfl) (by simp) ?_
  refine AllReadyH.cons (o := { dst := some 42, op := Op.call { callee := Callee.value (Operand.func 24), args := #[Operand.tmp 41], argTypes := #[25] }, type := 22, pos := "ipsix.go:92", after := #[{ on := 2, ground := Ground.data }], guard := none }) rfl (fun K hK => ?_) AllReadyH.nil
  go_simp
  refine (CS.out Y7x0).mono ?_
  rintro e Y7x1 ⟨z, rfl, hz, hy⟩
  replace O := Lib.hid (row_under O.out hy)
  have E1 := Lib.hid (E0.out.trans (hy.mono (Nat.le_trans hlow E0.out.size)))
  have C1 := Lib.hid E1.out
  have Z1 := Lib.hid (hz)
  clear hz
  clear hy E0
  refine hK.out _ _ C1.out (fun _ => ?_)
  clear hK K
  clear C1
  try simp only [Act.put, List.setIfInBounds_toArray, List.set_cons_zero, List.set_cons_succ]
  obtain ⟨gz, cz, rfl, -, -, -, -⟩ := own_at Z1.out (by omega)
  refine wpAnyH_ready (rs := [4]) (by kernel_rfl) (by simp) ?_
  refine AllReadyH.cons (o := { dst := some 43, op := Op.call { callee := Callee.builtin Builtin.copy, args := #[Operand.tmp 40, Operand.tmp 42], argTypes := #[22, 22] }, type := 3, pos := "ipsix.go:92", after := #[{ on := 1, ground := Ground.data }, { on := 3, ground := Ground.data }, { on := 3, ground := Ground.chain }], guard := none }) rfl (fun K hK => ?_) AllReadyH.nil
  rw [if_pos (by rfl)]
  refine wp_copy_into (.tmp 40) (.tmp 42) 22 22 rfl 5 Try.underlying22 Try.size5 g 8 40 40 w.heap.size 32 32 5 .u8 _ sb (some ⟨gz, 0, none⟩) 16 cz rfl rfl O.out (Rd.own Z1.out) (by omega) (by omega) (by omega) ?_
  intro Y7x2 oz gz
  clear Z1
  replace O := oz
  have E2 := Lib.hid (E1.out.grown gz (Nat.le_trans hlow E1.out.size) (fun k e => by cases e; first | exact Nat.le_refl _ | omega))
  have C2 := Lib.hid E2.out
  clear gz E1
  refine hK.out _ _ C2.out (fun _ => ?_)
  clear hK K
  clear C2
  try simp only [Act.put, List.setIfInBounds_toArray, List.set_cons_zero, List.set_cons_succ]
  refine wpAnyH_done (by kernel_rfl) ?_ _
  replace K := Lib.hid (K.out.trans (E2.out.mono (by omega)))
  replace N1 := Lib.hid (N1.out.below E2.out (by omega))
  replace N2 := Lib.hid (N2.out.below E2.out (by omega))
  clear E2
  replace hlow : g ≤ Y7x2.heap.size := Nat.le_of_lt (own_in O.out)
  go_wp2_with fail
  refine wp_region_held (S := (fun w' : World => Below (g) Y7x2 w')) (by kernel_rfl) ?_
  change wpAnyH _ _ _ _ _ _ _ _ Y7x2.drew
  have hy : Below Y7x2.heap.size Y7x2 Y7x2.drew := (Below.refl _ _).drew
  have hE0 : Below (g) Y7x2 Y7x2.drew := (Below.refl _ _).drew
  replace O := Lib.hid (row_under O.out hy)
  clear hy
  generalize Y7x2.drew = Y8x0 at hE0 O ⊢
  have E0 := Lib.hid hE0
  clear hE0
  refine wpAnyH_take (i := 0) (oi := { dst := some 44, op := Op.move (Operand.tmp 10), type := 22, pos := "ipsix.go:93", after := #[], guard := none }) (v := ?_) rfl (by kernel_rfl) (by kernel_rfl) (by kernel_rfl) (fun _ _ _ h => h) (Or.inl ⟨by rfl, ?_⟩) E0.out ?_
  rotate_left
  · (intro w1 hS; go_simp; try with_reducible rfl)
  simp only [Act.put, List.setIfInBounds_toArray, List.set_cons_zero, List.set_cons_succ]
  refine wpAnyH_take (i := 1) (oi := { dst := some 45, op := Op.slice 22 (Operand.tmp 44) (some (Operand.const (Value.int IntKind.i64 24))) none none, type := 22, pos := "ipsix.go:93", after := #[{ on := 0, ground := Ground.data }], guard := none }) (v := ?_) rfl (by kernel_rfl) (by kernel_rfl) (by kernel_rfl) (fun _ _ _ h => h) (Or.inl ⟨by rfl, ?_⟩) E0.out ?_
  rotate_left
  · (intro w1 hS; have hW := hS; have q : (24 : Int) ≤ (40 : Int) := (by omega); clear hW hS; go_simp; try with_reducible rfl)
  simp only [Act.put, List.setIfInBounds_toArray, List.set_cons_zero, List.set_cons_succ]
  refine wpAnyH_take (i := 2) (oi := { dst := some 46, op := Op.load 25 (Operand.tmp 5), type := 25, pos := "ipsix.go:93", after := #[], guard := none }) (v := .agg c2) rfl (by kernel_rfl) (by kernel_rfl) (by kernel_rfl) (fun _ _ _ h => h) (Or.inl ⟨by rfl, ?_⟩) E0.out ?_
  · (intro w1 hS; have hW := hS; exact exec_load 25 (.tmp 5) rfl _ rfl _ (run_blk_load (P := Try.prog) 25 (w.heap.size + 1) _ (N2.out.below hW (by omega)) Try.underlying25 rfl I2.out))
  simp only [Act.put, List.setIfInBounds_toArray, List.set_cons_zero, List.set_cons_succ]
  refine wpAnyH_ready (rs := [3]) (by kernel_rfl) (by simp) ?_
  refine AllReadyH.cons (o := { dst := some 47, op := Op.call { callee := Callee.value (Operand.func 24), args := #[Operand.tmp 46], argTypes := #[25] }, type := 22, pos := "ipsix.go:93", after := #[{ on := 2, ground := Ground.data }], guard := none }) rfl (fun K hK => ?_) AllReadyH.nil
  go_simp
  refine (CD.out Y8x0).mono ?_
  rintro e Y8x1 ⟨z, rfl, hz, hy⟩
  replace O := Lib.hid (row_under O.out hy)
  have E1 := Lib.hid (E0.out.trans (hy.mono (Nat.le_trans hlow E0.out.size)))
  have C1 := Lib.hid E1.out
  have Z2 := Lib.hid (hz)
  clear hz
  clear hy E0
  refine hK.out _ _ C1.out (fun _ => ?_)
  clear hK K
  clear C1
  try simp only [Act.put, List.setIfInBounds_toArray, List.set_cons_zero, List.set_cons_succ]
  obtain ⟨gz, cz, rfl, -, -, -, -⟩ := own_at Z2.out (by omega)
  refine wpAnyH_ready (rs := [4]) (by kernel_rfl) (by simp) ?_
  refine AllReadyH.cons (o := { dst := some 48, op := Op.call { callee := Callee.builtin Builtin.copy, args := #[Operand.tmp 45, Operand.tmp 47], argTypes := #[22, 22] }, type := 3, pos := "ipsix.go:93", after := #[{ on := 1, ground := Ground.data }, { on := 3, ground := Ground.data }, { on := 3, ground := Ground.chain }], guard := none }) rfl (fun K hK => ?_) AllReadyH.nil
  rw [if_pos (by rfl)]
  refine wp_copy_into (.tmp 45) (.tmp 47) 22 22 rfl 5 Try.underlying22 Try.size5 g 24 40 40 w.heap.size 16 16 5 .u8 _ db (some ⟨gz, 0, none⟩) 16 cz rfl rfl O.out (Rd.own Z2.out) (by omega) (by omega) (by omega) ?_
  intro Y8x2 oz gz
  clear Z2
  replace O := oz
  have E2 := Lib.hid (E1.out.grown gz (Nat.le_trans hlow E1.out.size) (fun k e => by cases e; first | exact Nat.le_refl _ | omega))
  have C2 := Lib.hid E2.out
  clear gz E1
  refine hK.out _ _ C2.out (fun _ => ?_)
  clear hK K
  clear C2
  try simp only [Act.put, List.setIfInBounds_toArray, List.set_cons_zero, List.set_cons_succ]
  refine wpAnyH_done (by kernel_rfl) ?_ _
  replace K := Lib.hid (K.out.trans (E2.out.mono (by omega)))
  replace N1 := Lib.hid (N1.out.below E2.out (by omega))
  replace N2 := Lib.hid (N2.out.below E2.out (by omega))
  clear E2
  rw [HM.out] at O
  go_wp2
  go_ret2
  exact ⟨_, rfl, O.out, K.out⟩
/-- What Make answers. -/
def mOut (six1 six2 : Bool) (sb db : List Nat) (p : Nat) (n : Int) : List Nat := if mkOk six1 six2 n then mk6 sb db p n.toNat else []
theorem make_any (six1 six2 : Bool) (sb db : List Nat) (p : Nat) (n : Int) (w : World) (hl1 : sb.length = 16) (hl2 : db.length = 16) :
    Calls Try.prog 11 #[adr six1 sb, adr six2 db, .int .u8 (p : Int), .int .i64 n] w fun e w' => ∃ x, e = .returned (.tuple #[x, .bool (mkOk six1 six2 n)]) ∧ Rd w' x (nus .u8 (mOut six1 six2 sb db p n)) ∧ Below w.heap.size w w' := by
  unfold mOut
  by_cases h : mkOk six1 six2 n = true
  · have h' := h
    unfold mkOk at h'
    obtain ⟨rfl, rfl, h0, h1⟩ : six1 = true ∧ six2 = true ∧ 0 ≤ n ∧ n ≤ 65535 := by simpa [and_assoc] using h'
    obtain ⟨k, rfl⟩ := Int.eq_ofNat_of_zero_le h0
    rw [if_pos h, h]
    exact (make_yes sb db p k w hl1 hl2 (by omega)).mono fun _ _ ⟨x, e, o, b⟩ => ⟨x, e, Rd.own o, b⟩
  · rw [if_neg h, Bool.eq_false_iff.2 h]
    exact (make_no six1 six2 sb db p n w (Bool.eq_false_iff.2 h)).mono fun _ _ ⟨e, b⟩ => ⟨_, e, rd_nil _ _, b⟩
/-- What Dest answers. -/
def dOut (zs : List Nat) (six : Bool) (bs : List Nat) : List Nat := if f6 zs = 0 ∧ six = true then dst6 zs bs else []
theorem dest_any (v : Value) (zs : List Nat) (six : Bool) (bs : List Nat) (w : World) (hr : Rd w v (nus .u8 zs)) (hb : ∀ c ∈ zs, c < 256) (hz : zs.length ≤ 140737488351232) (hl : bs.length = 16) :
    Calls Try.prog 13 #[v, adr six bs] w fun e w' => ∃ x, e = .returned x ∧ Rd w' x (nus .u8 (dOut zs six bs)) ∧ Below w.heap.size w w' := by
  unfold dOut
  by_cases h : f6 zs = 0 ∧ six = true
  · obtain ⟨h1, rfl⟩ := h
    rw [if_pos ⟨h1, rfl⟩]
    exact (dest_yes v zs bs w hr hb h1 hz hl).mono fun _ _ ⟨x, e, o, b⟩ => ⟨x, e, Rd.own o, b⟩
  · rw [if_neg h]
    exact (dest_no v zs six bs w hr hb (by cases six <;> simp_all)).mono fun _ _ ⟨e, b⟩ => ⟨_, e, rd_nil _ _, b⟩
end Go.Proofs.Ytnfanenaighflaa

/- bazaarref1.From, of four bytes or sixteen; v4. -/
namespace Go.Proofs.Ytnfanenaighflaa
open Go.RowKit

theorem fill_set (v : Bool) (bs : List Nat) (k : Nat) (h : k < bs.length) (h2 : bs.length ≤ 16) :
    (cellsA v (bs.take k ++ List.replicate (16 - k) 0)).setIfInBounds (1 + k) (.int .u8 ((bs.getD k 0 : Nat) : Int)) = cellsA v (bs.take (k + 1) ++ List.replicate (16 - (k + 1)) 0) := by
  have hl : (bs.take k).length = k := by simp; omega
  have h1 := set_zeros (bs.take k) (16 - k) (bs.getD k 0) (by omega)
  rw [hl] at h1
  rw [cellsA_set, h1, List.take_succ_eq_append_getElem h, show 16 - k - 1 = 16 - (k + 1) from by omega]
  simp [List.getD_eq_getElem?_getD, List.getElem?_eq_getElem h]
structure InF (w : World) (v : Bool) (bs : List Nat) (k : Nat) (wr : World) : Prop where
  le : k ≤ bs.length
  out : Blk wr w.heap.size 25 (cellsA false (List.replicate 16 0))
  own : Blk wr (w.heap.size + 1) 25 (cellsA v (bs.take k ++ List.replicate (16 - k) 0))
  low : Below w.heap.size w wr
theorem rj25 : (Try.prog.info? 25).map (·.size) = some 17 := by kernel_rfl

set_option maxRecDepth 100000 in
set_option maxHeartbeats 2000000 in
theorem rfrom_ok (va : Value) (v : Bool) (bs : List Nat) (w : World) (hr : Rd w va (nus .u8 bs)) (h : bs.length = 4 ∧ v = false ∨ bs.length = 16 ∧ v = true) :
    Calls Try.prog 21 #[va] w fun e w' => e = .returned (.tuple #[adr v (bs ++ List.replicate (16 - bs.length) 0), .int .i64 0]) ∧ Below w.heap.size w w' := by
  obtain ⟨a, cap, rfl, hlc, hcm⟩ := rd_shape hr
  obtain ⟨b, off, rfl, hc⟩ := hr.cells (by omega)
  have hstart : InF w v bs 0 ((w.alloc (.cells (cellsA false (List.replicate 16 0)) 25)).alloc (.cells (cellsA v (List.replicate 16 0)) 25)) := by
    have hn := Blk.new (w.alloc (.cells (cellsA false (List.replicate 16 0)) 25)) 25 (cellsA v (List.replicate 16 0))
    rw [World.size_alloc] at hn
    exact ⟨Nat.zero_le _, (Blk.new w 25 _).alloc _, hn, ((Below.refl _ w).alloc (Nat.le_refl _) _).alloc (by simp) _⟩
  have H0 := Lib.hid hstart
  have HC := Lib.hid hc
  have HV := Lib.hid h
  have hlen : bs.length ≤ 16 := by omega
  have hb0 : b < w.heap.size := by
    have c0 := hc 0 (by omega)
    rcases Nat.lt_or_ge b w.heap.size with h | h
    · exact h
    · simp [World.cell?, Array.getElem?_eq_none h] at c0
  have HST := Lib.hid (fun k hk => fill_set v bs k hk hlen)
  unfold maxLen at hcm
  clear hstart hr hc
  rcases h with ⟨h, rfl⟩ | ⟨h, rfl⟩
  · have HL := Lib.hid h
    rw [h] at hlc ⊢
    clear h hlen
    go_enter Try.func21, Try.ntmps21
    go_wp2
    go_loopw [5] (fun i wr => ∃ k : Nat, i = .int .i64 (k : Int) ∧ Hid (InF w false bs k wr)) (fun i _ => 4 - (RowKit.intOf i).toNat)
    case atStart => exact ⟨0, rfl, H0⟩
    case round =>
      obtain ⟨k, rfl, hI⟩ := hrel
      by_cases hlt : k < 4
      · have hc1 := (hI.out.low.cell (p := ⟨b, off + k, none⟩) hb0).trans (HC.out k (by rw [HL.out]; exact hlt))
        have hfz := hI.out.own.frozen (1 + k)
        have hcell := (hI.out.own.cell (1 + k)).trans (cellsA_get _ _ k (by simp [HL.out]; omega))
        generalize (bs.take k ++ List.replicate (16 - k) 0).getD k 0 = was at hcell
        have hki : (k : Int) < 4 := by omega
        go_wp2
        go_roundw
        case rel =>
          refine ⟨k + 1, by go_num, Lib.hid ⟨by rw [HL.out]; omega, hI.out.out.far (by simp) _, ?_, hI.out.low.setCell (p := ⟨w.heap.size + 1, 1 + k, none⟩) (Nat.le_succ _) _⟩⟩
          have h := hI.out.own.set_ (1 + k) (.int .u8 ((bs.getD k 0 : Nat) : Int))
          rw [HST.out k (by rw [HL.out]; exact hlt)] at h
          exact h
        case measure => simp [RowKit.intOf]; omega
      · obtain rfl : k = 4 := by have := hI.out.le; rw [HL.out] at this; omega
        have e : bs.take 4 ++ List.replicate (16 - 4) 0 = bs ++ List.replicate (16 - 4) 0 := by rw [List.take_of_length_le (by rw [HL.out]; exact Nat.le_refl _)]
        have ho := hI.out.own
        rw [e] at ho
        have hsz : (cellsA false (bs ++ List.replicate (16 - 4) 0)).size = 17 := by rw [cellsA_size, List.length_append, List.length_replicate, HL.out]
        have hal : (cellsA false (bs ++ List.replicate (16 - 4) 0)).all (·.oneCell') = true := cellsA_all _ _
        have HE := Lib.hid (show adr false (bs ++ List.replicate (16 - 4) 0) = .agg (cellsA false (bs ++ List.replicate (16 - 4) 0)) from rfl)
        generalize cellsA false (bs ++ List.replicate (16 - 4) 0) = c at ho hsz hal HE
        have HO := Lib.hid ho
        have Z := Lib.hid (rj25.trans (congrArg some hsz.symm))
        have Z0 := Lib.hid (hsz.trans (cellsA_size false (List.replicate 16 0)).symm)
        have A := Lib.hid hal
        clear ho hsz hal e
        go_wp2_with (first
          | ((with_reducible refine wpList_blk_load (op := ⟨some 32, .load 25 (.tmp 4), _, _, _, _⟩) ?lg1 25 (.tmp 4) ?lo1 (w.heap.size + 1) ?lx1 _ HO.out Try.underlying25 ?ld1 Z.out ?_); (case lg1 => rfl); (case lo1 => rfl); (case lx1 => rfl); (case ld1 => rfl))
          | ((with_reducible refine wpList_blk_store (op := ⟨none, .store 25 (.tmp 2) (.tmp 32), _, _, _, _⟩) ?sg1 25 (.tmp 2) (.tmp 32) ?so1 w.heap.size c ?sx1 ?sy1 hI.out.out Z0.out Z.out A.out ?_); (case sg1 => rfl); (case so1 => rfl); (case sx1 => rfl); (case sy1 => rfl)))
        intro w3 hA hF hB
        have HA := Lib.hid hA
        have K3 := Lib.hid (hI.out.low.trans (hB _ (Nat.le_refl _)))
        clear hF hA hB
        go_wp2
        have hrun := run_blk_load (P := Try.prog) 25 w.heap.size _ HA.out Try.underlying25 rfl Z.out
        exact bodyPost_ret (results_cell_tmp 2 25 3 w.heap.size _ Try.results21 rfl hrun) rfl ⟨by rw [HE.out]; rfl, K3.out⟩
  · have HL := Lib.hid h
    rw [h] at hlc ⊢
    clear h hlen
    go_enter Try.func21, Try.ntmps21
    go_wp2
    go_loopw [5] (fun i wr => ∃ k : Nat, i = .int .i64 (k : Int) ∧ Hid (InF w true bs k wr)) (fun i _ => 16 - (RowKit.intOf i).toNat)
    case atStart => exact ⟨0, rfl, H0⟩
    case round =>
      obtain ⟨k, rfl, hI⟩ := hrel
      by_cases hlt : k < 16
      · have hc1 := (hI.out.low.cell (p := ⟨b, off + k, none⟩) hb0).trans (HC.out k (by rw [HL.out]; exact hlt))
        have hfz := hI.out.own.frozen (1 + k)
        have hcell := (hI.out.own.cell (1 + k)).trans (cellsA_get _ _ k (by simp [HL.out]; omega))
        generalize (bs.take k ++ List.replicate (16 - k) 0).getD k 0 = was at hcell
        have hki : (k : Int) < 16 := by omega
        go_wp2
        go_roundw
        case rel =>
          refine ⟨k + 1, by go_num, Lib.hid ⟨by rw [HL.out]; omega, hI.out.out.far (by simp) _, ?_, hI.out.low.setCell (p := ⟨w.heap.size + 1, 1 + k, none⟩) (Nat.le_succ _) _⟩⟩
          have h := hI.out.own.set_ (1 + k) (.int .u8 ((bs.getD k 0 : Nat) : Int))
          rw [HST.out k (by rw [HL.out]; exact hlt)] at h
          exact h
        case measure => simp [RowKit.intOf]; omega
      · obtain rfl : k = 16 := by have := hI.out.le; rw [HL.out] at this; omega
        have e : bs.take 16 ++ List.replicate (16 - 16) 0 = bs ++ List.replicate (16 - 16) 0 := by rw [List.take_of_length_le (by rw [HL.out]; exact Nat.le_refl _)]
        have ho := hI.out.own
        rw [e] at ho
        have hsz : (cellsA true (bs ++ List.replicate (16 - 16) 0)).size = 17 := by rw [cellsA_size, List.length_append, List.length_replicate, HL.out]
        have hal : (cellsA true (bs ++ List.replicate (16 - 16) 0)).all (·.oneCell') = true := cellsA_all _ _
        have HE := Lib.hid (show adr true (bs ++ List.replicate (16 - 16) 0) = .agg (cellsA true (bs ++ List.replicate (16 - 16) 0)) from rfl)
        generalize cellsA true (bs ++ List.replicate (16 - 16) 0) = c at ho hsz hal HE
        have HO := Lib.hid ho
        have Z := Lib.hid (rj25.trans (congrArg some hsz.symm))
        have Z0 := Lib.hid (hsz.trans (cellsA_size false (List.replicate 16 0)).symm)
        have A := Lib.hid hal
        clear ho hsz hal e
        go_wp2_with (first
          | ((with_reducible refine wpList_blk_load (op := ⟨some 32, .load 25 (.tmp 4), _, _, _, _⟩) ?lg2 25 (.tmp 4) ?lo2 (w.heap.size + 1) ?lx2 _ HO.out Try.underlying25 ?ld2 Z.out ?_); (case lg2 => rfl); (case lo2 => rfl); (case lx2 => rfl); (case ld2 => rfl))
          | ((with_reducible refine wpList_blk_store (op := ⟨none, .store 25 (.tmp 2) (.tmp 32), _, _, _, _⟩) ?sg2 25 (.tmp 2) (.tmp 32) ?so2 w.heap.size c ?sx2 ?sy2 hI.out.out Z0.out Z.out A.out ?_); (case sg2 => rfl); (case so2 => rfl); (case sx2 => rfl); (case sy2 => rfl)))
        intro w3 hA hF hB
        have HA := Lib.hid hA
        have K3 := Lib.hid (hI.out.low.trans (hB _ (Nat.le_refl _)))
        clear hF hA hB
        go_wp2
        have hrun := run_blk_load (P := Try.prog) 25 w.heap.size _ HA.out Try.underlying25 rfl Z.out
        exact bodyPost_ret (results_cell_tmp 2 25 3 w.heap.size _ Try.results21 rfl hrun) rfl ⟨by rw [HE.out]; rfl, K3.out⟩
end Go.Proofs.Ytnfanenaighflaa

/- The contract of bazaarref1.Be16: two bytes, as a number. -/
namespace Go.Proofs.Ytnfanenaighflaa
open Go.RowKit

theorem or_i64 (x y : Nat) (hx : x < 4294967296) (hy : y < 4294967296) : bits .or .i64 (x : Int) (y : Int) = ((x ||| y : Nat) : Int) := by
  have key : (BitVec.ofInt 64 (x : Int) ||| BitVec.ofInt 64 (y : Int)).toNat = x ||| y := by
    rw [BitVec.toNat_or, BitVec.toNat_ofInt, BitVec.toNat_ofInt]
    congr 1 <;> omega
  have hl : x ||| y < 4294967296 := Nat.or_lt_two_pow (n := 32) hx hy
  show IntKind.i64.wrap ((BitVec.ofInt 64 (x : Int) ||| BitVec.ofInt 64 (y : Int)).toNat : Nat) = _
  rw [key, IntKind.wrap_i64]
  omega
theorem be_or (p q : Nat) (hp : p < 256) (hq : q < 256) : bits .or .i64 ((p : Int) * 256) (q : Int) = ((p * 256 + q : Nat) : Int) := by
  have e : (p : Int) * 256 = ((p * 256 : Nat) : Int) := by omega
  rw [e, or_i64 _ _ (by omega) (by omega), nat_join 8 (p * 256) q (by omega) (by omega)]
set_option maxRecDepth 100000 in
set_option maxHeartbeats 1000000 in
theorem be16_any (a : Option Addr) (len cap : Nat) (k : Nat) (zs : List Nat) (w : World) (hr : Rd w (.slice a len cap) (nus .u8 zs)) (hb : ∀ c ∈ zs, c < 256) (hk : k + 2 ≤ zs.length) :
    Calls Try.prog 22 #[.slice a len cap, .int .i64 (k : Int)] w fun e w' => e = .returned (.int .i64 ((zs.getD k 0 * 256 + zs.getD (k + 1) 0 : Nat) : Int)) ∧ ∃ n, w' = w.drewN n := by
  obtain ⟨a', c', e, h1, h2, h3⟩ := hr
  simp only [Value.slice.injEq, nus_length] at e
  obtain ⟨rfl, rfl, rfl⟩ := e
  rw [nus_length] at h1 h3
  unfold maxLen at h2
  rcases h3 with h3 | ⟨b, off, rfl, hbs, hc⟩
  · have : zs.length = 0 := by rw [(nus_nil _ _).1 h3]; rfl
    omega
  have c1 := hc k (by omega)
  have c2 := hc (k + 1) (by omega)
  rw [nus_get _ _ _ (by omega)] at c1 c2
  have hp := getD_lt zs hb k
  have hq := getD_lt zs hb (k + 1)
  obtain ⟨p, hpe⟩ : ∃ p, p = zs.getD k 0 := ⟨_, rfl⟩
  obtain ⟨q, hqe⟩ : ∃ q, q = zs.getD (k + 1) 0 := ⟨_, rfl⟩
  obtain ⟨len, hle⟩ : ∃ n, n = zs.length := ⟨_, rfl⟩
  rw [← hpe] at c1 hp ⊢
  rw [← hqe] at c2 hq ⊢
  rw [← hle] at h1 hk ⊢
  have HO := Lib.hid (be_or p q hp hq)
  have hk1 : k < len := by omega
  have hk2 : k + 1 < len := by omega
  have hkw : IntKind.i64.wrap ((k : Int) + 1) = (k : Int) + 1 := by rw [IntKind.wrap_i64]; omega
  have hpw : IntKind.i64.wrap (p : Int) = (p : Int) := by rw [IntKind.wrap_i64]; omega
  have hpw2 : IntKind.i64.wrap ((p : Int) * 256) = (p : Int) * 256 := by rw [IntKind.wrap_i64]; omega
  have hqw : IntKind.i64.wrap (q : Int) = (q : Int) := by rw [IntKind.wrap_i64]; omega
  have hki : (0 : Int) ≤ (k : Int) + 1 ∧ (k : Int) + 1 < (len : Int) := by omega
  have hkt : ((k : Int) + 1).toNat = k + 1 := by omega
  clear hc hbs hb hpe hqe hle
  go_enter Try.func22, Try.ntmps22
  go_wp2
  go_quiet (fail)
  go_wp2
  go_ret
  exact ⟨ret_int HO.out, _, rfl⟩
end Go.Proofs.Ytnfanenaighflaa

