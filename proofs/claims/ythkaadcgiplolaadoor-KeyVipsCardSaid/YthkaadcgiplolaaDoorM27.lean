/- Texts that the walks of this seat lean on, put together. -/
import Derived.BigFrame
import Derived.Laws.CopyOwn
import Derived.Handy
import Derived.BigQuiet
import Derived.Deep.QuietTactic
import Derived.KernelRfl
import Derived.WalkKit
import Derived.WalkSmall
import Derived.Lib.QuietBelow
import Derived.Deep.RegionHeld
import Derived.Below
import Derived.Test.YthkaadcgiplolaaDoorTk
import Derived.Test.YthkaadcgiplolaaDoorM06
import Derived.Test.YthkaadcgiplolaaDoorM08
import Derived.Test.YthkaadcgiplolaaDoorM13
import Derived.Test.YthkaadcgiplolaaDoorM21
import Derived.Test.YthkaadcgiplolaaDoorM26
import Derived.Test.YthkaadcgiplolaaDoorProg
namespace Go.Proofs.YthkaadcgiplolaaDoor
open Go.RowKit
theorem wpList_load_want {P : Program} {ops : Array Oper} {rest : List Oper} {op : Oper} {a : Act} {w : World} {Q : Exit → Act → World → Prop} (hw : Region.wanted op (yielded ops a.tmps) = true) (ty : TypeId) (x : Operand) (ho : op.op = .load ty x)
    (p : Addr) (hx : a.eval x = .pointer (some p)) (v : Value) (hl : (loadVar ty p).run P w = .ok v w) (h : wpList P ops Q rest (a.put op.dst v) w) : wpList P ops Q (op :: rest) a w :=
  BigFrame.wpList_want hw fun K hK => by
    unfold Oper.wp
    simp only [exec_load ty x ho p hx v hl]
    exact hK _ _ h
end Go.Proofs.YthkaadcgiplolaaDoor
namespace Go.Proofs.YthkaadcgiplolaaDoor
open Go.RowKit
theorem Tryd.info5 : (Tryd.prog.info? 5).map (fun i => (i.zero, i.size, i.bytes)) = some (some (.int .u8 0), 1, 1) := by kernel_rfl
theorem Tryd.size5 : (Tryd.prog.info? 5).map (·.size) = some 1 := by kernel_rfl
theorem size_made (n : Nat) : (madeCells #[Value.int .u8 0] n).toList.length = n := by rw [toList_madeCells_one]; simp
theorem splice_made (zs : List Nat) (n len : Nat) (h : len = zs.length) : splice (madeCells #[Value.int .u8 0] (len + n)).toList 0 (nus .u8 zs) = nus .u8 (zs ++ List.replicate n 0) := by
  rw [toList_madeCells_one, nus_append]
  subst h
  simp [splice, nus]
end Go.Proofs.YthkaadcgiplolaaDoor
namespace Go.Proofs.YthkaadcgiplolaaDoor
open Go.RowKit
set_option maxHeartbeats 400000 in
theorem put16_yes (g n cap base : Nat) (k v : Nat) (zs : List Nat) (w : World) (hown : w.ownsRow base 5 1 (.slice (some ⟨g, 0, none⟩) n cap) n (nus .u8 zs)) (hn : n ≤ maxLen) (hk : k + 2 ≤ n) (hv : v < 65536) :
    Calls Tryd.prog 44 #[.slice (some ⟨g, 0, none⟩) n cap, .int .i64 k, .int .u16 v] w fun e w' => e = .returned (.bool true) ∧ w'.ownsRow base 5 1 (.slice (some ⟨g, 0, none⟩) n cap) n (nus .u8 (putRow zs k 2 v 2)) ∧ w.grownBy w' (some g) := by
  have hzl : zs.length = n := by have := hown.1; simpa [nus_length] using this
  unfold maxLen at hn
  have hfit : decide ((k : Int) ≤ (n : Int) - 2) = true := by simp; omega
  have HO := Lib.hid hown
  have HZ := Lib.hid hzl
  clear hown hzl
  go_enter Tryd.func44, Tryd.ntmps44
  go_wp2_with (first
    | (go_at_call 40; refine (fits16_pos _ _ _ _ _ (by unfold maxLen; omega) (by omega)).mono ?_; rintro e w' ⟨rfl, rfl⟩; rw [hfit])
    | (go_at_call 41; refine (size16_any _).mono ?_; rintro e w' ⟨rfl, rfl⟩))
  go_loopw [7, 8] (fun r i wr => ∃ j : Nat, j ≤ 2 ∧ r = .int .u64 ((v / 256 ^ j : Nat) : Int) ∧ i = .int .i64 ((k : Int) + 2 - 1 - j) ∧ wr.ownsRow base 5 1 (.slice (some ⟨g, 0, none⟩) n cap) n (nus .u8 (putRow zs k 2 v j)) ∧ w.grownBy wr (some g)) (fun _ i _ => (intOf i + 1 - k).toNat)
  case atStart => exact ⟨0, by omega, by simp, by simp, by rw [putRow_zero]; exact HO.out, World.grownBy.refl _ _⟩
  case round =>
    obtain ⟨j, hj, rfl, rfl, hown, hgr⟩ := hrel
    by_cases h1 : j < 2
    · obtain ⟨r, hr⟩ : ∃ r, r = v / 256 ^ j := ⟨_, rfl⟩
      obtain ⟨p, hp⟩ : ∃ p : Nat, (k : Int) + 2 - 1 - j = p := ⟨k + 2 - 1 - j, by omega⟩
      have hpk : k ≤ p ∧ p < k + 2 := by omega
      have hrv : r < 18446744073709551616 := by have := Nat.div_le_self v (256 ^ j); omega
      have hcell := hown.cellAt p (by omega)
      rw [nus_get _ _ _ (by rw [putRow_length _ _ _ _ _ (by rw [HZ.out]; exact hk) hj, HZ.out]; omega)] at hcell
      have hfz := hown.frozenAt p
      have hst := hown.stored p (.int .u8 ((r % 256 : Nat) : Int))
      have hstep := putRow_step zs k 2 v j (by rw [HZ.out]; exact hk) h1
      rw [← hr, show k + 2 - 1 - j = p from by omega] at hstep
      rw [nus_set, hstep] at hst
      have hr2 : r / 256 = v / 256 ^ (j + 1) := by rw [hr, Nat.div_div_eq_div_mul, Nat.pow_succ]
      rw [← hr, hp]
      obtain ⟨x, hx⟩ : ∃ x, x = (putRow zs k 2 v j).getD p 0 := ⟨_, rfl⟩
      rw [← hx] at hcell
      have HS := Lib.hid hst
      have HP := Lib.hid hp
      have HR := Lib.hid hr2
      clear hown hst hstep hp hr hr2 hx
      go_wp2
      go_roundw
      case rel => exact ⟨j + 1, by omega, by rw [← HR.out]; go_num, by have := HP.out; go_num, HS.out.1, grownBy_trans hgr HS.out.2⟩
      case measure => have := HP.out; simp [intOf]; omega
    · obtain rfl : j = 2 := by omega
      go_wp2
      go_ret
      exact ⟨rfl, hown, hgr⟩
end Go.Proofs.YthkaadcgiplolaaDoor
namespace Go.Proofs.YthkaadcgiplolaaDoor
open Go.RowKit
set_option maxHeartbeats 400000 in
theorem app16_any (va : Value) (zs : List Nat) (v : Nat) (w : World) (hr : Rd w va (nus .u8 zs)) (hz : zs.length ≤ 140737488351232) (hv : v < 65536) :
    Calls Tryd.prog 33 #[va, .int .u16 v] w fun e w' => ∃ x, e = .returned x ∧ w'.ownsRow w.heap.size 5 1 x (zs.length + 2) (nus .u8 (zs ++ bg 2 v)) ∧ Below w.heap.size w w' := by
  obtain ⟨i0, hi, hz0, hz1, hz2⟩ := info_parts Tryd.info5
  obtain ⟨a, cap, rfl, hlc, hl, hx⟩ := hr
  rw [nus_length] at hlc hx ⊢
  obtain ⟨len, hlen⟩ : ∃ len, len = zs.length := ⟨_, rfl⟩
  rw [← hlen] at hlc hx hz ⊢
  have HL := Lib.hid hlen
  have HX := Lib.hid hx
  clear hlen hx
  unfold maxLen at hl
  go_enter Tryd.func33, Tryd.ntmps33
  have hbase : w.heap.size ≤ w.heap.size := Nat.le_refl _
  go_wp2_with (first
    | (go_at_call 41; refine (size16_any _).mono ?_; rintro e w' ⟨rfl, rfl⟩)
    | (at_make; refine wpList_make_full _ rfl _ _ 28 rfl w.heap.size 5 i0 (.int .u8 0) 1 Tryd.underlying28 hi hz0 hz1 .i64 .i64 _ _ (len + 2) rfl rfl ?c1 ?c2 ?c3 ?c4 hbase ?_))
  case c1 => omega
  case c2 => omega
  case c3 => rw [hz2]; omega
  case c4 => unfold maxLen; omega
  intro w1 hown hgr
  have hb1 : Below w.heap.size w w1 := (Below.refl _ _).grown hgr (Nat.le_refl _) (fun k hk => by cases hk)
  obtain ⟨hh, _⟩ := own_heap hown
  have hrd : Rd w1 (.slice a len cap) (nus .u8 zs) := (show Rd w (.slice a len cap) (nus .u8 zs) from ⟨a, cap, by rw [nus_length, HL.out], by rw [nus_length, ← HL.out]; exact hlc, hl, by rw [nus_length, ← HL.out]; exact HX.out⟩).below hb1
  have hsrc := Lib.hid hrd.src
  have HH := Lib.hid hh
  have HB1 := Lib.hid hb1
  clear hh hown hgr hrd hb1
  go_wp2_with (with_reducible refine wpList_copy_splice rfl (.tmp 11) (.tmp 12) 28 28 rfl 5 Tryd.underlying28 Tryd.size5 _ _ _ _ _ _ rfl rfl w.heap.size 0 _ 5 HH.out (nus .u8 zs) ?d1 ?d2 ?d3 (oneCell_nus _ _) w.heap.size w HB1.out (Nat.le_refl _) ?_)
  case d1 => rw [nus_length, ← HL.out]; exact (Nat.min_eq_left (by omega)).symm
  case d2 => exact hsrc.out
  case d3 => rw [nus_length, ← HL.out, size_made]; omega
  intro w2 h2 hb2
  have hh2 := h2.out
  rw [splice_made zs 2 _ HL.out] at hh2
  have hown2 := own_of_heap (base := w.heap.size) (n := len + 2) hh2 (Nat.le_refl _) (by rw [nus_length, List.length_append, List.length_replicate, ← HL.out]) (by unfold maxLen; omega)
  have HO := Lib.hid hown2
  have HB2 := Lib.hid hb2
  clear hh2 hown2 h2 hb2 hsrc HH HB1 HX
  go_wp2_with (go_at_call 44; (refine (put16_yes w.heap.size (len + 2) (len + 2) w.heap.size len v _ _ HO.out (by unfold maxLen; omega) (Nat.le_refl _) hv).mono ?_); rintro e w3 ⟨rfl, hown3, hgr3⟩)
  go_ret
  refine ⟨_, rfl, ?_, HB2.out.grown hgr3 HB2.out.size (fun k hk => by cases hk; exact Nat.le_refl _)⟩
  rw [putRow_app zs 2 v len HL.out] at hown3
  exact hown3
end Go.Proofs.YthkaadcgiplolaaDoor
namespace Go.Proofs.YthkaadcgiplolaaDoor
open Go.RowKit
theorem or_i64 (x y : Nat) (hx : x < 4294967296) (hy : y < 4294967296) : bits .or .i64 (x : Int) (y : Int) = ((x ||| y : Nat) : Int) := by
  have key : (BitVec.ofInt 64 (x : Int) ||| BitVec.ofInt 64 (y : Int)).toNat = x ||| y := by
    rw [BitVec.toNat_or, BitVec.toNat_ofInt, BitVec.toNat_ofInt]
    congr 1 <;> omega
  have hl : x ||| y < 4294967296 := Nat.or_lt_two_pow (n := 32) hx hy
  show IntKind.i64.wrap ((BitVec.ofInt 64 (x : Int) ||| BitVec.ofInt 64 (y : Int)).toNat : Nat) = _
  rw [key, IntKind.wrap_i64]
  omega
theorem be_or (p q : Nat) (hp : p < 256) (hq : q < 256) : bits .or .i64 ((p : Int) * 256) (q : Int) = ((p * 256 + q : Nat) : Int) := by
  have e : (p : Int) * 256 = ((p * 256 : Nat) : Int) := by omega
  rw [e, or_i64 _ _ (by omega) (by omega), nat_join 8 (p * 256) q (by omega) (by omega)]
set_option maxRecDepth 100000 in
set_option maxHeartbeats 1000000 in
theorem be16_any (a : Option Addr) (len cap : Nat) (k : Nat) (zs : List Nat) (w : World) (hr : Rd w (.slice a len cap) (nus .u8 zs)) (hb : ∀ c ∈ zs, c < 256) (hk : k + 2 ≤ zs.length) :
    Calls Tryd.prog 27 #[.slice a len cap, .int .i64 (k : Int)] w fun e w' => e = .returned (.int .i64 ((zs.getD k 0 * 256 + zs.getD (k + 1) 0 : Nat) : Int)) ∧ ∃ n, w' = w.drewN n := by
  obtain ⟨a', c', e, h1, h2, h3⟩ := hr
  simp only [Value.slice.injEq, nus_length] at e
  obtain ⟨rfl, rfl, rfl⟩ := e
  rw [nus_length] at h1 h3
  unfold maxLen at h2
  rcases h3 with h3 | ⟨b, off, rfl, hbs, hc⟩
  · have : zs.length = 0 := by rw [(nus_nil _ _).1 h3]; rfl
    omega
  have c1 := hc k (by omega)
  have c2 := hc (k + 1) (by omega)
  rw [nus_get _ _ _ (by omega)] at c1 c2
  have hp := getD_lt zs hb k
  have hq := getD_lt zs hb (k + 1)
  obtain ⟨p, hpe⟩ : ∃ p, p = zs.getD k 0 := ⟨_, rfl⟩
  obtain ⟨q, hqe⟩ : ∃ q, q = zs.getD (k + 1) 0 := ⟨_, rfl⟩
  obtain ⟨len, hle⟩ : ∃ n, n = zs.length := ⟨_, rfl⟩
  rw [← hpe] at c1 hp ⊢
  rw [← hqe] at c2 hq ⊢
  rw [← hle] at h1 hk ⊢
  have HO := Lib.hid (be_or p q hp hq)
  have hk1 : k < len := by omega
  have hk2 : k + 1 < len := by omega
  have hkw : IntKind.i64.wrap ((k : Int) + 1) = (k : Int) + 1 := by rw [IntKind.wrap_i64]; omega
  have hpw : IntKind.i64.wrap (p : Int) = (p : Int) := by rw [IntKind.wrap_i64]; omega
  have hpw2 : IntKind.i64.wrap ((p : Int) * 256) = (p : Int) * 256 := by rw [IntKind.wrap_i64]; omega
  have hqw : IntKind.i64.wrap (q : Int) = (q : Int) := by rw [IntKind.wrap_i64]; omega
  have hki : (0 : Int) ≤ (k : Int) + 1 ∧ (k : Int) + 1 < (len : Int) := by omega
  have hkt : ((k : Int) + 1).toNat = k + 1 := by omega
  clear hc hbs hb hpe hqe hle
  go_enter Tryd.func27, Tryd.ntmps27
  go_wp2
  go_quiet (fail)
  go_wp2
  go_ret
  exact ⟨ret_int HO.out, _, rfl⟩
end Go.Proofs.YthkaadcgiplolaaDoor
namespace Go.Proofs.YthkaadcgiplolaaDoor
open Go.RowKit
theorem wpAnyH_mono {P : Program} {ops : Array Oper} {Q : Exit → Act → World → Prop} {md : Region.Mode} {S S' : World → Prop} (hS : ∀ w, S' w → S w) :
    ∀ (fuel : Nat) (listed : Array Bool) (a : Act) (w : World), wpAnyH P md ops Q S' fuel listed a w → wpAnyH P md ops Q S fuel listed a w
  | 0, _, _, _, h => h
  | _ + 1, _, _, _, h => ⟨h.1, fun i hi => wpOp_mono (fun _ _ h' => ⟨hS _ h'.1, wpAnyH_mono hS _ _ _ _ h'.2⟩) (h.2 i hi)⟩
end Go.Proofs.YthkaadcgiplolaaDoor
