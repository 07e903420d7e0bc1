/- The walk of SumOrder. -/
import Derived.Test.YtjcmidgeddhfoabCW
namespace Go.Proofs.Ytjcmidgeddhfoab
open Go.RowKit

theorem hi_byte (a : Nat) (h : a < 65536) : IntKind.u8.wrap ((a : Int) / 256) = ((a / 256 : Nat) : Int) := by rw [IntKind.wrap_u8]; omega
theorem lo_byte (a : Nat) : IntKind.u8.wrap (a : Int) = ((a % 256 : Nat) : Int) := by rw [IntKind.wrap_u8]; omega
theorem w2_bytes (n m : Nat) : w2 [n / 256, n % 256, m / 256, m % 256] 0 = n ∧ w2 [n / 256, n % 256, m / 256, m % 256] 1 = m := by
  constructor
  · show n / 256 * 256 + n % 256 = n
    omega
  · show m / 256 * 256 + m % 256 = m
    omega
theorem chg_two (o : Nat) (F T : List Nat) : chg o F T 2 = upd (upd o (w2 F 0) (w2 T 0)) (w2 F 1) (w2 T 1) := rfl
theorem order_xy (o a b c d : Nat) (ho : o < 65536) (ha : a < 65536) (hc : c < 65536) :
    upd (upd o a b) c d % 65535 = upd (upd o c d) a b % 65535 := by
  have h1 := upd_mod o a b (by omega) (by omega)
  have h2 := upd_mod (upd o a b) c d (upd_le _ _ _) (by omega)
  have h3 := upd_mod o c d (by omega) (by omega)
  have h4 := upd_mod (upd o c d) a b (upd_le _ _ _) (by omega)
  generalize upd (upd o a b) c d = x at *
  generalize upd (upd o c d) a b = y at *
  generalize upd o a b = x1 at *
  generalize upd o c d = y1 at *
  omega
theorem order_zo (o a b : Nat) (ho : o < 65536) (ha : a < 65536) (hb : b < 65536) : upd (upd o a b) b a % 65535 = o % 65535 := by
  have h1 := upd_mod o a b (by omega) (by omega)
  have h2 := upd_mod (upd o a b) b a (upd_le _ _ _) (by omega)
  generalize upd (upd o a b) b a = z at *
  generalize upd o a b = x1 at *
  omega
theorem order_chg (o a b c d : Nat) : chg o [a / 256, a % 256, c / 256, c % 256] [b / 256, b % 256, d / 256, d % 256] 2 = upd (upd o a b) c d := by
  rw [chg_two, (w2_bytes a c).1, (w2_bytes a c).2, (w2_bytes b d).1, (w2_bytes b d).2]
theorem upd_lt (o a b : Nat) : upd o a b < 65536 := by have := upd_le o a b; omega
theorem upd_eq (x o f t : Nat) (h : x = upd o f t) (ho : o < 65536) (hf : f < 65536) (ht : t < 65536) (w : World) :
    Calls Try.prog 10 #[.int .u16 (o : Int), .int .u16 (f : Int), .int .u16 (t : Int)] w fun e w' => e = .returned (.int .u16 (x : Int)) ∧ w = w' := by
  subst h; exact upd_any o f t w ho hf ht

theorem four_lt (n m : Nat) (hn : n < 65536) (hm : m < 65536) : ∀ c ∈ [n / 256, n % 256, m / 256, m % 256], c < 256 := by
  intro c hc
  simp at hc
  omega
theorem rd_two {w : World} {x : Addr} {a b c d : Nat} (h : Rd w (.slice (some x) 4 4) (nus .u8 [a, b, c, d])) : Rd w (.slice (some x) 2 4) (nus .u8 [a, b]) := by
  obtain ⟨a', cap, e, h1, h2, h3⟩ := h
  simp only [Value.slice.injEq] at e
  obtain ⟨rfl, -, rfl⟩ := e
  refine ⟨_, 4, rfl, by simp [nus], h2, ?_⟩
  rcases h3 with h3 | ⟨bb, off, he, hl, hc⟩
  · cases h3
  · refine .inr ⟨bb, off, he, hl, fun i hi => ?_⟩
    have hi2 : i < 2 := hi
    rw [hc i (show i < 4 by omega)]
    match i, hi2 with
    | 0, _ => rfl
    | 1, _ => rfl

set_option maxRecDepth 100000 in
set_option maxHeartbeats 2000000 in
theorem order_walk (o a b c d : Nat) (w : World) (ho : o < 65536) (ha : a < 65536) (hb : b < 65536) (hc : c < 65536) (hd : d < 65536) :
    Calls Try.prog 5 #[.int .u16 (o : Int), .int .u16 (a : Int), .int .u16 (b : Int), .int .u16 (c : Int), .int .u16 (d : Int)] w fun e w' => e = .returned (.bool true) ∧ Below w.heap.size w w' := by
  go_enter Try.func5, Try.ntmps5
  obtain ⟨x1, hx1⟩ : ∃ x, x = upd o a b := ⟨_, rfl⟩
  obtain ⟨x, hx⟩ : ∃ x, x = upd x1 c d := ⟨_, rfl⟩
  obtain ⟨y1, hy1⟩ : ∃ x, x = upd o c d := ⟨_, rfl⟩
  obtain ⟨y, hy⟩ : ∃ x, x = upd y1 a b := ⟨_, rfl⟩
  obtain ⟨z, hz⟩ : ∃ x, x = upd x1 b a := ⟨_, rfl⟩
  have lx1 : x1 < 65536 := hx1 ▸ upd_lt _ _ _
  have lx : x < 65536 := hx ▸ upd_lt _ _ _
  have ly1 : y1 < 65536 := hy1 ▸ upd_lt _ _ _
  have ly : y < 65536 := hy ▸ upd_lt _ _ _
  have lz : z < 65536 := hz ▸ upd_lt _ _ _
  have hxy : x % 65535 = y % 65535 := by
    rw [hx, hy, hx1, hy1]; exact order_xy o a b c d ho ha hc
  have hzo : z % 65535 = o % 65535 := by
    rw [hz, hx1]; exact order_zo o a b ho ha hb
  have hch : chg o [a / 256, a % 256, c / 256, c % 256] [b / 256, b % 256, d / 256, d % 256] 2 = x := by
    rw [hx, hx1]; exact order_chg o a b c d
  have u1 := upd_eq x1 o a b hx1 ho ha hb
  have u2 := upd_eq x x1 c d hx lx1 hc hd
  have u3 := upd_eq y1 o c d hy1 ho hc hd
  have u4 := upd_eq y y1 a b hy ly1 ha hb
  have u5 := upd_eq z x1 b a hz lx1 hb ha
  have U1 := Lib.hid u1
  have U2 := Lib.hid u2
  have U3 := Lib.hid u3
  have U4 := Lib.hid u4
  have U5 := Lib.hid u5
  have HXY := Lib.hid hxy
  have HZO := Lib.hid hzo
  have HCH := Lib.hid hch
  clear hx1 hx hy1 hy hz u1 u2 u3 u4 u5 hxy hzo hch
  go_wp2_with fail
  refine (U1.out w).mono ?_; rintro e w' ⟨rfl, rfl⟩
  go_wp2_with fail
  refine (U2.out _).mono ?_; rintro e w' ⟨rfl, rfl⟩
  go_wp2_with fail
  refine (U3.out _).mono ?_; rintro e w' ⟨rfl, rfl⟩
  go_wp2_with fail
  refine (U4.out _).mono ?_; rintro e w' ⟨rfl, rfl⟩
  go_wp2_with fail
  refine (U1.out _).mono ?_; rintro e w' ⟨rfl, rfl⟩
  go_wp2_with fail
  refine (U5.out _).mono ?_; rintro e w' ⟨rfl, rfl⟩
  go_wp2_with fail
  refine (alike_any x y _ lx ly).mono ?_; rintro e w' ⟨rfl, rfl⟩
  rw [decide_eq_true HXY.out]
  have ec (n m : Nat) : (#[.int .u8 ((n : Int) / 256), .int .u8 ((n : Int) % 256), .int .u8 ((m : Int) / 256), .int .u8 ((m : Int) % 256)] : Array Value) = (nus .u8 [n / 256, n % 256, m / 256, m % 256]).toArray := by simp [nus]
  rw [ec, ec]
  have b1 := (Below.refl w.heap.size w).alloc (Nat.le_refl _) (.cells (nus .u8 [a / 256, a % 256, c / 256, c % 256]).toArray 5)
  have r1 := rd_lit w .u8 5 [a / 256, a % 256, c / 256, c % 256] 4 (0, 0) rfl (by simp [maxLen])
  have b2 := b1.alloc b1.size (.cells (nus .u8 [b / 256, b % 256, d / 256, d % 256]).toArray 5)
  have r2 := rd_lit (w.alloc (.cells (nus .u8 [a / 256, a % 256, c / 256, c % 256]).toArray 5)) .u8 5 [b / 256, b % 256, d / 256, d % 256] 4 (0, 0) rfl (by simp [maxLen])
  have r1 := r1.below ((Below.refl _ _).alloc (Nat.le_refl _) (.cells (nus .u8 [b / 256, b % 256, d / 256, d % 256]).toArray 5))
  rw [World.size_alloc] at r2
  generalize hW : (w.alloc (.cells (nus .u8 [a / 256, a % 256, c / 256, c % 256]).toArray 5)).alloc (.cells (nus .u8 [b / 256, b % 256, d / 256, d % 256]).toArray 5) = W at r1 r2 b2 ⊢
  clear b1 hW ec U1 U2 U3 U4 U5
  have R1 := Lib.hid r1
  have R2 := Lib.hid r2
  have B2 := Lib.hid b2
  clear r1 r2 b2
  go_wp2_with fail
  refine (alike_any z o _ lz ho).mono ?_; rintro e w' ⟨rfl, rfl⟩
  rw [decide_eq_true HZO.out]
  go_wp2_with fail
  refine (change_yes o _ _ [a / 256, a % 256, c / 256, c % 256] [b / 256, b % 256, d / 256, d % 256] _ R1.out R2.out 2 rfl rfl (by simp) (four_lt a c ha hc) (four_lt b d hb hd) ho).mono ?_
  rintro e W3 ⟨rfl, hb3⟩
  rw [HCH.out]
  have b3 := B2.out.trans (hb3.mono B2.out.size)
  have R1' := Lib.hid (R1.out.below hb3)
  have R2' := Lib.hid (rd_two (R2.out.below hb3))
  have B3 := Lib.hid b3
  clear R1 R2 B2 hb3 b3
  go_wp2_with fail
  refine (change_no o _ _ [a / 256, a % 256, c / 256, c % 256] [b / 256, b % 256] _ R1'.out R2'.out (.inl (by simp))).mono ?_
  rintro e W4 ⟨rfl, hb4⟩
  have b4 := B3.out.trans (hb4.mono B3.out.size)
  have B4 := Lib.hid b4
  clear R1' R2' B3 hb4 b4
  go_wp2_with fail
  refine (awake_any _).mono ?_
  rintro e W5 ⟨rfl, hb5⟩
  go_wp2
  go_ret
  exact ⟨rfl, B4.out.trans (hb5.mono B4.out.size)⟩
end Go.Proofs.Ytjcmidgeddhfoab
