/- Texts that the walks of this seat lean on, put together: each has its own remark below. -/
import Derived.ProofKit
import Derived.OpenShut
import Derived.ChangeSame
import Derived.Deep.DeepHandedRow
import Derived.LaidSub
import Derived.Test.YthjaolngfjfldaaM01
import Derived.Test.YthjaolngfjfldaaM02
import Derived.Test.YthjaolngfjfldaaM03
import Derived.Test.YthjaolngfjfldaaM06
import Derived.Test.YthjaolngfjfldaaM09

/- The walk of FourTells. -/
namespace Go.Proofs.Ythjaolngfjfldaa
open Go.RowKit

/-- What Dest answers, and Make. -/
def dOut (zs : List Nat) (six : Bool) (bs : List Nat) : List Nat := if ff zs = 0 ∧ six = false then dst4 zs (bs.take 4) else []
def mOk (six1 six2 : Bool) (n : Int) : Bool := !six1 && !six2 && decide (0 ≤ n) && decide (n ≤ 65515)
theorem mOk_spec (six1 six2 : Bool) (n : Int) : mOk six1 six2 n = true ↔ mkOk six1 six2 n := by
  unfold mOk mkOk
  cases six1 <;> cases six2 <;> simp
def mOut (six1 six2 : Bool) (sb db : List Nat) (p : Nat) (n : Int) : List Nat := if mOk six1 six2 n then mk4 (sb.take 4) (db.take 4) p n.toNat else []
theorem dest_any (v : Value) (zs : List Nat) (six : Bool) (bs : List Nat) (w : World) (hr : Rd w v (nus .u8 zs)) (hb : ∀ c ∈ zs, c < 256) (hz : zs.length ≤ 140737488351232) (hl : bs.length = 16) (hbb : ∀ c ∈ bs, c < 256) :
    Calls Try.prog 14 #[v, adr six bs] w fun e w' => ∃ x, e = .returned x ∧ Rd w' x (nus .u8 (dOut zs six bs)) ∧ Below w.heap.size w w' := by
  unfold dOut
  by_cases h : ff zs = 0 ∧ six = false
  · obtain ⟨h1, rfl⟩ := h
    rw [if_pos ⟨h1, rfl⟩]
    exact (dest_yes v zs bs w hr hb h1 hz hl hbb).mono fun _ _ ⟨x, e, o, b⟩ => ⟨x, e, Rd.own o, b⟩
  · rw [if_neg h]
    exact (dest_no v zs six bs w hr hb (by cases six <;> simp_all)).mono fun _ _ ⟨e, b⟩ => ⟨_, e, rd_nil _ _, b⟩
theorem rdest_any (v : Value) (zs : List Nat) (six : Bool) (bs : List Nat) (w : World) (hr : Rd w v (nus .u8 zs)) (hb : ∀ c ∈ zs, c < 256) (hz : zs.length ≤ 2000) (hl : bs.length = 16) (hbb : ∀ c ∈ bs, c < 256) :
    Calls Try.prog 15 #[v, adr six bs] w fun e w' => ∃ x, e = .returned x ∧ Rd w' x (nus .u8 (dOut zs six bs)) ∧ Below w.heap.size w w' := by
  unfold dOut
  by_cases h : ff zs = 0 ∧ six = false
  · obtain ⟨h1, rfl⟩ := h
    rw [if_pos ⟨h1, rfl⟩]
    exact (rdest_yes v zs bs w hr hb h1 hz hl hbb).mono fun _ _ ⟨x, e, o, b⟩ => ⟨x, e, Rd.own o, b⟩
  · rw [if_neg h]
    exact (rdest_no v zs six bs w hr hb hz (by cases six <;> simp_all)).mono fun _ _ ⟨e, b⟩ => ⟨_, e, rd_nil _ _, b⟩
theorem make_any (six1 six2 : Bool) (sb db : List Nat) (p : Nat) (n : Int) (w : World) (hl1 : sb.length = 16) (hl2 : db.length = 16) (hb1 : ∀ c ∈ sb, c < 256) (hb2 : ∀ c ∈ db, c < 256) (hp : p < 256) :
    Calls Try.prog 11 #[adr six1 sb, adr six2 db, .int .u8 (p : Int), .int .i64 n] w fun e w' => ∃ x, e = .returned (.tuple #[x, .bool (mOk six1 six2 n)]) ∧ Rd w' x (nus .u8 (mOut six1 six2 sb db p n)) ∧ Below w.heap.size w w' := by
  unfold mOut
  by_cases h : mOk six1 six2 n = true
  · obtain ⟨rfl, rfl, h0, h1⟩ := (mOk_spec _ _ _).1 h
    obtain ⟨k, rfl⟩ := Int.eq_ofNat_of_zero_le h0
    rw [if_pos h, h]
    exact (make_yes sb db p k w hl1 hl2 hb1 hb2 hp (by omega)).mono fun _ _ ⟨x, e, o, b⟩ => ⟨x, e, Rd.own o, b⟩
  · rw [if_neg h, Bool.eq_false_iff.2 h]
    exact (make_no six1 six2 sb db p n w (fun hh => h ((mOk_spec _ _ _).2 hh))).mono fun _ _ ⟨e, b⟩ => ⟨_, e, rd_nil _ _, b⟩
theorem rmake_any (six1 six2 : Bool) (sb db : List Nat) (p : Nat) (n : Int) (w : World) (hl1 : sb.length = 16) (hl2 : db.length = 16) (hb1 : ∀ c ∈ sb, c < 256) (hb2 : ∀ c ∈ db, c < 256) (hp : p < 256) :
    Calls Try.prog 12 #[adr six1 sb, adr six2 db, .int .u8 (p : Int), .int .i64 n] w fun e w' => ∃ x, e = .returned (.tuple #[x, .bool (mOk six1 six2 n)]) ∧ Rd w' x (nus .u8 (mOut six1 six2 sb db p n)) ∧ Below w.heap.size w w' := by
  unfold mOut
  by_cases h : mOk six1 six2 n = true
  · obtain ⟨rfl, rfl, h0, h1⟩ := (mOk_spec _ _ _).1 h
    obtain ⟨k, rfl⟩ := Int.eq_ofNat_of_zero_le h0
    rw [if_pos h, h]
    exact (rmake_yes sb db p k w hl1 hl2 hb1 hb2 hp (by omega)).mono fun _ _ ⟨x, e, o, b⟩ => ⟨x, e, Rd.own o, b⟩
  · rw [if_neg h, Bool.eq_false_iff.2 h]
    exact (rmake_no six1 six2 sb db p n w (fun hh => h ((mOk_spec _ _ _).2 hh))).mono fun _ _ ⟨e, b⟩ => ⟨_, e, rd_nil _ _, b⟩

set_option maxRecDepth 100000 in
set_option maxHeartbeats 4000000 in
theorem tells_walk (v : Value) (zs : List Nat) (six1 six2 : Bool) (tb sb : List Nat) (p : Nat) (n : Int) (w : World) (hr : Rd w v (nus .u8 zs)) (hb : ∀ c ∈ zs, c < 256)
    (hl1 : tb.length = 16) (hl2 : sb.length = 16) (hb1 : ∀ c ∈ tb, c < 256) (hb2 : ∀ c ∈ sb, c < 256) (hp : p < 256) :
    Calls Try.prog 3 #[v, adr six1 tb, adr six2 sb, .int .u8 (p : Int), .int .i64 n] w fun e w' => e = .returned (.bool true) ∧ Below w.heap.size w w' := by
  obtain ⟨a, cap, rfl, hlc, hlm⟩ := rd_shape hr
  obtain ⟨va, hva⟩ : ∃ va, va = Value.slice a zs.length cap := ⟨_, rfl⟩
  have V1 := Lib.hid (fun W => ref_adr six1 tb hl1 W)
  have V2 := Lib.hid (fun W => ref_adr six2 sb hl2 W)
  have CR := Lib.hid (fun W (h : Rd W (.slice a zs.length cap) (nus .u8 zs)) => read_any _ zs W h hb)
  have CM := Lib.hid (fun W => make_any six2 six1 sb tb p n W hl2 hl1 hb2 hb1 hp)
  have CN := Lib.hid (fun W => rmake_any six2 six1 sb tb p n W hl2 hl1 hb2 hb1 hp)
  have CD := Lib.hid (fun W (h : Rd W (.slice a zs.length cap) (nus .u8 zs)) (hz : zs.length ≤ 2000) => dest_any _ zs six1 tb W h hb (by omega) hl1 hb1)
  have CE := Lib.hid (fun W (h : Rd W (.slice a zs.length cap) (nus .u8 zs)) (hz : zs.length ≤ 2000) => rdest_any _ zs six1 tb W h hb hz hl1 hb1)
  have CF := Lib.hid (fun W (h : Rd W (.slice a zs.length cap) (nus .u8 zs)) (hz : zs.length ≤ 2000) => rfour_any _ zs W h hb hz)
  have CS := Lib.hid (fun W => same_hd zs hb W)
  have hf7 := ff_lt zs
  unfold adr at V1 V2 CM CN CD CE ⊢
  have z1 : (cellsA six1 tb).size = 17 := by rw [cellsA_size, hl1]
  have z2 : (cellsA six2 sb).size = 17 := by rw [cellsA_size, hl2]
  have I1 := Lib.hid (i24.trans (congrArg some z1.symm))
  have I2 := Lib.hid (i24.trans (congrArg some z2.symm))
  have zh := hd_size' zs
  have Zh := Lib.hid (i29.trans (congrArg some zh.symm))
  have Yh : Hid ((hd zs).size = Array.size (#[Value.int .i64 0, .int .i64 0, .int .u8 0, .bool false, .int .u8 0, .int .u8 0, .int .u8 0, .int .u8 0, .int .u8 0, .int .u8 0, .int .u8 0, .int .u8 0, .int .u8 0, .int .u8 0, .int .u8 0, .int .u8 0, .int .u8 0, .int .u8 0, .int .u8 0, .int .u8 0, .bool false, .int .u8 0, .int .u8 0, .int .u8 0, .int .u8 0, .int .u8 0, .int .u8 0, .int .u8 0, .int .u8 0, .int .u8 0, .int .u8 0, .int .u8 0, .int .u8 0, .int .u8 0, .int .u8 0, .int .u8 0, .int .u8 0] : Array Value)) := zh
  have Zr := Lib.hid (i32.trans (congrArg some zh.symm))
  have Ah := Lib.hid (hd_all zs)
  have HR := Lib.hid hr
  generalize dOut zs six1 tb = DO at *
  generalize mOut six2 six1 sb tb p n = MO at *
  generalize mOk six2 six1 n = mb at *
  generalize vldA six1 tb = q1 at *
  generalize vldA six2 sb = q2 at *
  generalize cellsA six1 tb = c1 at *
  generalize cellsA six2 sb = c2 at *
  generalize hd zs = hdc at *
  generalize ff zs = fr at *
  have NA := (Blk.new w 25 c1).alloc (.cells c2 25)
  have NC := Blk.new (w.alloc (.cells c1 25)) 25 c2
  rw [World.size_alloc] at NC
  have N1 := Lib.hid NA
  have N2 := Lib.hid NC
  have K0 := Lib.hid (((Below.refl w.heap.size w).alloc (Nat.le_refl _) (.cells c1 25)).alloc (by simp) (.cells c2 25))
  have l1 := Lib.hid (run_blk_load (P := Try.prog) 25 w.heap.size _ NA Try.underlying25 rfl I1.out)
  clear hr hb hva va hl1 hl2 hb1 hb2 z1 z2 zh NA NC
  generalize zs.length = len at *
  unfold maxLen at hlm
  go_enter Try.func3, Try.ntmps3
  by_cases hlen : 2000 < len
  · go_wp2_with fail
    refine (awake_any _).mono ?_
    rintro e w1 ⟨rfl, hy⟩
    have K1 := Lib.hid (K0.out.trans (hy.mono K0.out.size))
    clear hy
    go_wp2
    go_ret
    exact ⟨rfl, K1.out⟩
  have hdl : decide ((2000 : Int) < (len : Int)) = false := decide_eq_false (by omega)
  go_wp2_with (((with_reducible refine wpList_load_want (op := ⟨some 23, .load 25 (.tmp 6), _, _, _, _⟩) ?wg1 25 (.tmp 6) ?wo1 ⟨w.heap.size, 0, none⟩ ?wx1 (.agg c1) l1.out ?_); (case wg1 => rfl); (case wo1 => rfl); (case wx1 => rfl)))
  refine (V1.out _).mono ?_
  rintro e W1 ⟨rfl, hy⟩
  have K1 := Lib.hid (K0.out.trans (hy.mono K0.out.size))
  have M1 := Lib.hid (N1.out.below hy N1.out.lt)
  have M2 := Lib.hid (N2.out.below hy N2.out.lt)
  clear hy N1 N2 K0 V1 l1
  cases q1 with
  | false =>
    go_wp2_with fail
    refine (awake_any _).mono ?_
    rintro e w1 ⟨rfl, hy⟩
    have K2 := Lib.hid (K1.out.trans (hy.mono K1.out.size))
    clear hy
    go_wp2
    go_ret
    exact ⟨rfl, K2.out⟩
  | true =>
  have l2 := Lib.hid (run_blk_load (P := Try.prog) 25 (w.heap.size + 1) _ M2.out Try.underlying25 rfl I2.out)
  go_wp2_with (((with_reducible refine wpList_load_want (op := ⟨some 28, .load 25 (.tmp 7), _, _, _, _⟩) ?wg2 25 (.tmp 7) ?wo2 ⟨w.heap.size + 1, 0, none⟩ ?wx2 (.agg c2) l2.out ?_); (case wg2 => rfl); (case wo2 => rfl); (case wx2 => rfl)))
  refine (V2.out _).mono ?_
  rintro e W2 ⟨rfl, hy⟩
  have K2 := Lib.hid (K1.out.trans (hy.mono K1.out.size))
  have N1 := Lib.hid (M1.out.below hy M1.out.lt)
  have N2 := Lib.hid (M2.out.below hy M2.out.lt)
  clear hy M1 M2 K1 V2 l2
  cases q2 with
  | false =>
    go_wp2_with fail
    refine (awake_any _).mono ?_
    rintro e w1 ⟨rfl, hy⟩
    have K3 := Lib.hid (K2.out.trans (hy.mono K2.out.size))
    clear hy
    go_wp2
    go_ret
    exact ⟨rfl, K3.out⟩
  | true =>
  have HLn := Lib.hid (show len ≤ 2000 by omega)
  go_wp2_with fail
  refine (CR.out W2 (HR.out.below K2.out)).mono ?_
  rintro e W3 ⟨rfl, hy⟩
  have K3 := Lib.hid (K2.out.trans (hy.mono K2.out.size))
  have M1 := Lib.hid (N1.out.below hy N1.out.lt)
  have M2 := Lib.hid (N2.out.below hy N2.out.lt)
  clear hy N1 N2 K2 CR
  go_wp2_with (((with_reducible refine wpList_blk_store (op := ⟨none, .store 29 (.tmp 11) (.tmp 36), _, _, _, _⟩) ?sg7 29 (.tmp 11) (.tmp 36) ?so7 (W3.heap.size) hdc ?sx7 ?sy7 (Blk.new W3 29 #[Value.int .i64 0, .int .i64 0, .int .u8 0, .bool false, .int .u8 0, .int .u8 0, .int .u8 0, .int .u8 0, .int .u8 0, .int .u8 0, .int .u8 0, .int .u8 0, .int .u8 0, .int .u8 0, .int .u8 0, .int .u8 0, .int .u8 0, .int .u8 0, .int .u8 0, .int .u8 0, .bool false, .int .u8 0, .int .u8 0, .int .u8 0, .int .u8 0, .int .u8 0, .int .u8 0, .int .u8 0, .int .u8 0, .int .u8 0, .int .u8 0, .int .u8 0, .int .u8 0, .int .u8 0, .int .u8 0, .int .u8 0, .int .u8 0]) Yh.out Zh.out Ah.out ?_); (case sg7 => rfl); (case so7 => rfl); (case sx7 => rfl); (case sy7 => rfl)))
  intro W4 hA hF hB
  have b7 := ((Below.refl W3.heap.size W3).alloc (Nat.le_refl _) (.cells #[Value.int .i64 0, .int .i64 0, .int .u8 0, .bool false, .int .u8 0, .int .u8 0, .int .u8 0, .int .u8 0, .int .u8 0, .int .u8 0, .int .u8 0, .int .u8 0, .int .u8 0, .int .u8 0, .int .u8 0, .int .u8 0, .int .u8 0, .int .u8 0, .int .u8 0, .int .u8 0, .bool false, .int .u8 0, .int .u8 0, .int .u8 0, .int .u8 0, .int .u8 0, .int .u8 0, .int .u8 0, .int .u8 0, .int .u8 0, .int .u8 0, .int .u8 0, .int .u8 0, .int .u8 0, .int .u8 0, .int .u8 0, .int .u8 0] 29)).trans (hB _ (Nat.le_refl _))
  have K4 := Lib.hid (K3.out.trans (b7.mono K3.out.size))
  have N1 := Lib.hid (M1.out.below b7 M1.out.lt)
  have N2 := Lib.hid (M2.out.below b7 M2.out.lt)
  have H4 := Lib.hid hA
  clear hA hF hB b7 K3 M1 M2
  go_wp2_with fail
  refine (CF.out W4 (HR.out.below K4.out) HLn.out).mono ?_
  rintro e W5 ⟨rfl, hy⟩
  have K5 := Lib.hid (K4.out.trans (hy.mono K4.out.size))
  have M1 := Lib.hid (N1.out.below hy N1.out.lt)
  have M2 := Lib.hid (N2.out.below hy N2.out.lt)
  have H5 := Lib.hid (H4.out.below hy H4.out.lt)
  clear hy N1 N2 K4 H4 CF
  go_wp2_with (((with_reducible refine wpList_blk_store (op := ⟨none, .store 32 (.tmp 13) (.tmp 41), _, _, _, _⟩) ?sg8 32 (.tmp 13) (.tmp 41) ?so8 (W5.heap.size) hdc ?sx8 ?sy8 (Blk.new W5 32 #[Value.int .i64 0, .int .i64 0, .int .u8 0, .bool false, .int .u8 0, .int .u8 0, .int .u8 0, .int .u8 0, .int .u8 0, .int .u8 0, .int .u8 0, .int .u8 0, .int .u8 0, .int .u8 0, .int .u8 0, .int .u8 0, .int .u8 0, .int .u8 0, .int .u8 0, .int .u8 0, .bool false, .int .u8 0, .int .u8 0, .int .u8 0, .int .u8 0, .int .u8 0, .int .u8 0, .int .u8 0, .int .u8 0, .int .u8 0, .int .u8 0, .int .u8 0, .int .u8 0, .int .u8 0, .int .u8 0, .int .u8 0, .int .u8 0]) Yh.out Zr.out Ah.out ?_); (case sg8 => rfl); (case so8 => rfl); (case sx8 => rfl); (case sy8 => rfl)))
  intro W6 hA hF hB
  have b7 := ((Below.refl W5.heap.size W5).alloc (Nat.le_refl _) (.cells #[Value.int .i64 0, .int .i64 0, .int .u8 0, .bool false, .int .u8 0, .int .u8 0, .int .u8 0, .int .u8 0, .int .u8 0, .int .u8 0, .int .u8 0, .int .u8 0, .int .u8 0, .int .u8 0, .int .u8 0, .int .u8 0, .int .u8 0, .int .u8 0, .int .u8 0, .int .u8 0, .bool false, .int .u8 0, .int .u8 0, .int .u8 0, .int .u8 0, .int .u8 0, .int .u8 0, .int .u8 0, .int .u8 0, .int .u8 0, .int .u8 0, .int .u8 0, .int .u8 0, .int .u8 0, .int .u8 0, .int .u8 0, .int .u8 0] 32)).trans (hB _ (Nat.le_refl _))
  have K6 := Lib.hid (K5.out.trans (b7.mono K5.out.size))
  have N1 := Lib.hid (M1.out.below b7 M1.out.lt)
  have N2 := Lib.hid (M2.out.below b7 M2.out.lt)
  have H6 := Lib.hid (H5.out.below b7 H5.out.lt)
  have J6 := Lib.hid hA
  have l1 := Lib.hid (run_blk_load (P := Try.prog) 25 w.heap.size _ N1.out Try.underlying25 rfl I1.out)
  have l2 := Lib.hid (run_blk_load (P := Try.prog) 25 (w.heap.size + 1) _ N2.out Try.underlying25 rfl I2.out)
  clear hA hF hB b7 K5 M1 M2 H5
  go_wp2_with (first | ((with_reducible refine wpList_load_want (op := ⟨some 44, .load 25 (.tmp 7), _, _, _, _⟩) ?wg3 25 (.tmp 7) ?wo3 ⟨w.heap.size + 1, 0, none⟩ ?wx3 (.agg c2) l2.out ?_); (case wg3 => rfl); (case wo3 => rfl); (case wx3 => rfl)) | ((with_reducible refine wpList_load_want (op := ⟨some 45, .load 25 (.tmp 6), _, _, _, _⟩) ?wg4 25 (.tmp 6) ?wo4 ⟨w.heap.size, 0, none⟩ ?wx4 (.agg c1) l1.out ?_); (case wg4 => rfl); (case wo4 => rfl); (case wx4 => rfl)))
  refine (CM.out W6).mono ?_
  rintro e W7 ⟨m, rfl, om, hy⟩
  have K7 := Lib.hid (K6.out.trans (hy.mono K6.out.size))
  have M1 := Lib.hid (N1.out.below hy N1.out.lt)
  have M2 := Lib.hid (N2.out.below hy N2.out.lt)
  have H7 := Lib.hid (H6.out.below hy H6.out.lt)
  have J7 := Lib.hid (J6.out.below hy J6.out.lt)
  have X7 := Lib.hid om
  clear hy N1 N2 K6 H6 J6 CM l1 l2 om
  have l1 := Lib.hid (run_blk_load (P := Try.prog) 25 w.heap.size _ M1.out Try.underlying25 rfl I1.out)
  have l2 := Lib.hid (run_blk_load (P := Try.prog) 25 (w.heap.size + 1) _ M2.out Try.underlying25 rfl I2.out)
  go_wp2_with (first | ((with_reducible refine wpList_load_want (op := ⟨some 52, .load 25 (.tmp 7), _, _, _, _⟩) ?wg5 25 (.tmp 7) ?wo5 ⟨w.heap.size + 1, 0, none⟩ ?wx5 (.agg c2) l2.out ?_); (case wg5 => rfl); (case wo5 => rfl); (case wx5 => rfl)) | ((with_reducible refine wpList_load_want (op := ⟨some 53, .load 25 (.tmp 6), _, _, _, _⟩) ?wg6 25 (.tmp 6) ?wo6 ⟨w.heap.size, 0, none⟩ ?wx6 (.agg c1) l1.out ?_); (case wg6 => rfl); (case wo6 => rfl); (case wx6 => rfl)))
  refine (CN.out W7).mono ?_
  rintro e W8 ⟨m2, rfl, om, hy⟩
  have K8 := Lib.hid (K7.out.trans (hy.mono K7.out.size))
  have N1 := Lib.hid (M1.out.below hy M1.out.lt)
  have H8 := Lib.hid (H7.out.below hy H7.out.lt)
  have J8 := Lib.hid (J7.out.below hy J7.out.lt)
  have X8 := Lib.hid (X7.out.below hy)
  have X9 := Lib.hid om
  have HR8 := Lib.hid (HR.out.below K8.out)
  clear hy M1 M2 K7 H7 J7 X7 CN l1 l2 om
  have hm1 : ∀ W', Below W8.heap.size W8 W' → (convert 22 9 m).run Try.prog W' = .ok (.string (str MO)) W' := fun W' hW' => conv_rd W' 22 9 5 Try.underlying22 Try.underlying5 Try.underlying9 _ _ (X8.out.below hW')
  have hm2 : ∀ W', Below W8.heap.size W8 W' → (convert 22 9 m2).run Try.prog W' = .ok (.string (str MO)) W' := fun W' hW' => conv_rd W' 22 9 5 Try.underlying22 Try.underlying5 Try.underlying9 _ _ (X9.out.below hW')
  obtain ⟨TM, hTM⟩ : ∃ T, T = str MO := ⟨_, rfl⟩
  rw [← hTM] at hm1 hm2
  have HM1 := Lib.hid hm1
  have HM2 := Lib.hid hm2
  clear hm1 hm2 hTM
  go_wp2_with fail
  refine wp_region_held (S := (fun w' : World => Below W8.heap.size W8 w')) (by kernel_rfl) ?_
  change wpAnyH _ _ _ _ _ _ _ _ W8.drew
  have hE0 : Below W8.heap.size W8 W8.drew := (Below.refl _ _).drew
  generalize W8.drew = Y0 at hE0  ⊢
  have E0 := Lib.hid hE0
  clear hE0 
  refine wpAnyH_take (i := 0) (oi := { dst := some 59, op := Op.load 29 (Operand.tmp 11), type := 29, pos := "law.go:38", after := #[], guard := none }) (v := .agg hdc) rfl (by kernel_rfl) (by kernel_rfl) (by kernel_rfl) (fun _ _ _ h => h) (Or.inl ⟨by rfl, ?_⟩) E0.out ?_
  · (intro w1 hS; have hW := hS; exact exec_load 29 (.tmp 11) rfl _ rfl _ (run_blk_load (P := Try.prog) 29 W3.heap.size _ (H8.out.below hW H8.out.lt) Try.underlying29 rfl Zh.out))
  simp only [Act.put, List.setIfInBounds_toArray, List.set_cons_zero, List.set_cons_succ]
  refine wpAnyH_take (i := 1) (oi := { dst := some 60, op := Op.load 32 (Operand.tmp 13), type := 32, pos := "law.go:38", after := #[], guard := none }) (v := .agg hdc) rfl (by kernel_rfl) (by kernel_rfl) (by kernel_rfl) (fun _ _ _ h => h) (Or.inl ⟨by rfl, ?_⟩) E0.out ?_
  · (intro w1 hS; have hW := hS; exact exec_load 32 (.tmp 13) rfl _ rfl _ (run_blk_load (P := Try.prog) 32 W5.heap.size _ (J8.out.below hW J8.out.lt) Try.underlying32 rfl Zr.out))
  simp only [Act.put, List.setIfInBounds_toArray, List.set_cons_zero, List.set_cons_succ]
  refine wpAnyH_ready (rs := [2]) (by kernel_rfl) (by simp) ?_
  refine AllReadyH.cons (o := { dst := some 61, op := Op.call { callee := Callee.value (Operand.func 13), args := #[Operand.tmp 59, Operand.tmp 60], argTypes := #[29, 32] }, type := 4, pos := "law.go:38", after := #[{ on := 0, ground := Ground.data }, { on := 1, ground := Ground.data }], guard := none }) rfl (fun K hK => ?_) AllReadyH.nil
  go_simp
  refine (CS.out Y0).mono ?_
  rintro e Y1 ⟨rfl, hy⟩
  have E1 := Lib.hid (E0.out.trans (hy.mono E0.out.size))
  have C1 := Lib.hid E1.out
  clear hy E0
  refine hK.out _ _ C1.out (fun _ => ?_)
  clear hK K
  refine wpAnyH_mono (S' := (fun w' : World => Below Y1.heap.size Y1 w')) (fun w1 h => C1.out.trans (h.mono C1.out.size)) _ _ _ _ ?_
  clear C1
  try simp only [Act.put, List.setIfInBounds_toArray, List.set_cons_zero, List.set_cons_succ]
  refine wpAnyH_take (i := 3) (oi := { dst := some 62, op := Op.move (Operand.tmp 61), type := 4, pos := "law.go:38", after := #[{ on := 2, ground := Ground.data }, { on := 2, ground := Ground.chain }], guard := none }) (v := ?_) rfl (by kernel_rfl) (by kernel_rfl) (by kernel_rfl) (fun _ _ _ h => h) (Or.inl ⟨by rfl, ?_⟩) (Below.refl _ _) ?_
  rotate_left
  · (intro w1 hS; go_simp; try with_reducible rfl)
  simp only [Act.put, List.setIfInBounds_toArray, List.set_cons_zero, List.set_cons_succ]
  refine wpAnyH_take (i := 4) (oi := { dst := some 63, op := Op.move (Operand.tmp 12), type := 3, pos := "law.go:38", after := #[{ on := 3, ground := Ground.guard }], guard := some (3, true) }) (v := ?_) rfl (by kernel_rfl) (by kernel_rfl) (by kernel_rfl) (fun _ _ _ h => h) (Or.inl ⟨by rfl, ?_⟩) (Below.refl _ _) ?_
  rotate_left
  · (intro w1 hS; go_simp; try with_reducible rfl)
  simp only [Act.put, List.setIfInBounds_toArray, List.set_cons_zero, List.set_cons_succ]
  refine wpAnyH_take (i := 5) (oi := { dst := some 64, op := Op.move (Operand.tmp 14), type := 3, pos := "law.go:38", after := #[{ on := 3, ground := Ground.guard }], guard := some (3, true) }) (v := ?_) rfl (by kernel_rfl) (by kernel_rfl) (by kernel_rfl) (fun _ _ _ h => h) (Or.inl ⟨by rfl, ?_⟩) (Below.refl _ _) ?_
  rotate_left
  · (intro w1 hS; go_simp; try with_reducible rfl)
  simp only [Act.put, List.setIfInBounds_toArray, List.set_cons_zero, List.set_cons_succ]
  refine wpAnyH_take (i := 6) (oi := { dst := some 65, op := Op.binOp BinOp.eql 3 (Operand.tmp 63) (Operand.tmp 64) 3, type := 4, pos := "law.go:38", after := #[{ on := 4, ground := Ground.data }, { on := 5, ground := Ground.data }, { on := 3, ground := Ground.guard }], guard := some (3, true) }) (v := ?_) rfl (by kernel_rfl) (by kernel_rfl) (by kernel_rfl) (fun _ _ _ h => h) (Or.inl ⟨by rfl, ?_⟩) (Below.refl _ _) ?_
  rotate_left
  · (intro w1 hS; go_simp; try with_reducible rfl)
  simp only [Act.put, List.setIfInBounds_toArray, List.set_cons_zero, List.set_cons_succ]
  refine wpAnyH_take (i := 7) (oi := { dst := some 66, op := Op.pick (Operand.tmp 62) (Operand.tmp 65) (Operand.const (Value.bool false)), type := 4, pos := "law.go:38", after := #[{ on := 3, ground := Ground.data }, { on := 6, ground := Ground.data }], guard := none }) (v := ?_) rfl (by kernel_rfl) (by kernel_rfl) (by kernel_rfl) (fun _ _ _ h => h) (Or.inl ⟨by rfl, ?_⟩) (Below.refl _ _) ?_
  rotate_left
  · (intro w1 hS; go_simp; try with_reducible rfl)
  simp only [Act.put, List.setIfInBounds_toArray, List.set_cons_zero, List.set_cons_succ]
  refine wpAnyH_take (i := 8) (oi := { dst := some 67, op := Op.move (Operand.tmp 66), type := 4, pos := "law.go:38", after := #[{ on := 7, ground := Ground.data }, { on := 3, ground := Ground.chain }], guard := none }) (v := ?_) rfl (by kernel_rfl) (by kernel_rfl) (by kernel_rfl) (fun _ _ _ h => h) (Or.inl ⟨by rfl, ?_⟩) (Below.refl _ _) ?_
  rotate_left
  · (intro w1 hS; go_simp; try with_reducible rfl)
  simp only [Act.put, List.setIfInBounds_toArray, List.set_cons_zero, List.set_cons_succ]
  refine wpAnyH_take (i := 9) (oi := { dst := some 68, op := Op.move (Operand.tmp 0), type := 22, pos := "law.go:38", after := #[{ on := 8, ground := Ground.guard }], guard := some (8, true) }) (v := ?_) rfl (by kernel_rfl) (by kernel_rfl) (by kernel_rfl) (fun _ _ _ h => h) (Or.inl ⟨by rfl, ?_⟩) (Below.refl _ _) ?_
  rotate_left
  · (intro w1 hS; go_simp; try with_reducible rfl)
  simp only [Act.put, List.setIfInBounds_toArray, List.set_cons_zero, List.set_cons_succ]
  refine wpAnyH_take (i := 10) (oi := { dst := some 69, op := Op.load 25 (Operand.tmp 6), type := 25, pos := "law.go:38", after := #[{ on := 8, ground := Ground.guard }], guard := some (8, true) }) (v := .agg c1) rfl (by kernel_rfl) (by kernel_rfl) (by kernel_rfl) (fun _ _ _ h => h) (Or.inl ⟨by rfl, ?_⟩) (Below.refl _ _) ?_
  · (intro w1 hS; have hW := E1.out.trans (hS.mono E1.out.size); exact exec_load 25 (.tmp 6) rfl _ rfl _ (run_blk_load (P := Try.prog) 25 w.heap.size _ (N1.out.below hW N1.out.lt) Try.underlying25 rfl I1.out))
  simp only [Act.put, List.setIfInBounds_toArray, List.set_cons_zero, List.set_cons_succ]
  refine wpAnyH_take (i := 13) (oi := { dst := some 72, op := Op.move (Operand.tmp 0), type := 22, pos := "law.go:38", after := #[{ on := 8, ground := Ground.guard }], guard := some (8, true) }) (v := ?_) rfl (by kernel_rfl) (by kernel_rfl) (by kernel_rfl) (fun _ _ _ h => h) (Or.inl ⟨by rfl, ?_⟩) (Below.refl _ _) ?_
  rotate_left
  · (intro w1 hS; go_simp; try with_reducible rfl)
  simp only [Act.put, List.setIfInBounds_toArray, List.set_cons_zero, List.set_cons_succ]
  refine wpAnyH_take (i := 14) (oi := { dst := some 73, op := Op.load 25 (Operand.tmp 6), type := 25, pos := "law.go:38", after := #[{ on := 8, ground := Ground.guard }], guard := some (8, true) }) (v := .agg c1) rfl (by kernel_rfl) (by kernel_rfl) (by kernel_rfl) (fun _ _ _ h => h) (Or.inl ⟨by rfl, ?_⟩) (Below.refl _ _) ?_
  · (intro w1 hS; have hW := E1.out.trans (hS.mono E1.out.size); exact exec_load 25 (.tmp 6) rfl _ rfl _ (run_blk_load (P := Try.prog) 25 w.heap.size _ (N1.out.below hW N1.out.lt) Try.underlying25 rfl I1.out))
  simp only [Act.put, List.setIfInBounds_toArray, List.set_cons_zero, List.set_cons_succ]
  refine wpAnyH_ready (rs := [11]) (by kernel_rfl) (by simp) ?_
  refine AllReadyH.cons (o := { dst := some 70, op := Op.call { callee := Callee.value (Operand.func 14), args := #[Operand.tmp 68, Operand.tmp 69], argTypes := #[22, 25] }, type := 22, pos := "law.go:38", after := #[{ on := 9, ground := Ground.data }, { on := 10, ground := Ground.data }, { on := 8, ground := Ground.chain }, { on := 8, ground := Ground.guard }], guard := some (8, true) }) rfl (fun K hK => ?_) AllReadyH.nil
  go_simp
  refine (CD.out Y1 (HR8.out.below E1.out) HLn.out).mono ?_
  rintro e Y2 ⟨x, rfl, rx, hy⟩
  have E2 := Lib.hid (E1.out.trans (hy.mono E1.out.size))
  have C2 := Lib.hid hy
  have hcx : ∀ W', Below Y2.heap.size Y2 W' → (convert 22 9 x).run Try.prog W' = .ok (.string (str DO)) W' := fun W' hW' => conv_rd W' 22 9 5 Try.underlying22 Try.underlying5 Try.underlying9 _ _ (rx.below hW')
  obtain ⟨TD, hTD⟩ : ∃ T, T = str DO := ⟨_, rfl⟩
  rw [← hTD] at hcx
  have HTD := Lib.hid hTD
  clear hTD
  have Hcx := Lib.hid hcx
  clear hcx rx
  clear hy E1
  refine hK.out _ _ C2.out (fun _ => ?_)
  clear hK K
  refine wpAnyH_mono (S' := (fun w' : World => Below Y2.heap.size Y2 w')) (fun w1 h => C2.out.trans (h.mono C2.out.size)) _ _ _ _ ?_
  clear C2
  try simp only [Act.put, List.setIfInBounds_toArray, List.set_cons_zero, List.set_cons_succ]
  refine wpAnyH_take (i := 12) (oi := { dst := some 71, op := Op.convert 22 9 (Operand.tmp 70), type := 9, pos := "law.go:38", after := #[{ on := 11, ground := Ground.data }, { on := 8, ground := Ground.guard }], guard := some (8, true) }) (v := ?_) rfl (by kernel_rfl) (by kernel_rfl) (by kernel_rfl) (fun _ _ _ h => h) (Or.inl ⟨by rfl, ?_⟩) (Below.refl _ _) ?_
  rotate_left
  · (intro w1 hS; have hW := E2.out.trans (hS.mono E2.out.size); have q := Hcx.out w1 hS; clear hW hS; go_simp; try with_reducible rfl)
  simp only [Act.put, List.setIfInBounds_toArray, List.set_cons_zero, List.set_cons_succ]
  refine wpAnyH_ready (rs := [15]) (by kernel_rfl) (by simp) ?_
  refine AllReadyH.cons (o := { dst := some 74, op := Op.call { callee := Callee.value (Operand.func 15), args := #[Operand.tmp 72, Operand.tmp 73], argTypes := #[22, 25] }, type := 22, pos := "law.go:38", after := #[{ on := 13, ground := Ground.data }, { on := 14, ground := Ground.data }, { on := 11, ground := Ground.chain }, { on := 8, ground := Ground.guard }], guard := some (8, true) }) rfl (fun K hK => ?_) AllReadyH.nil
  go_simp
  refine (CE.out Y2 (HR8.out.below E2.out) HLn.out).mono ?_
  rintro e Y3 ⟨z, rfl, rz, hy⟩
  have E3 := Lib.hid (E2.out.trans (hy.mono E2.out.size))
  have C3 := Lib.hid hy
  have hcz : ∀ W', Below Y3.heap.size Y3 W' → (convert 22 9 z).run Try.prog W' = .ok (.string TD) W' := fun W' hW' => by rw [HTD.out]; exact conv_rd W' 22 9 5 Try.underlying22 Try.underlying5 Try.underlying9 _ _ (rz.below hW')
  have Hcz := Lib.hid hcz
  clear hcz rz
  clear hy E2
  refine hK.out _ _ C3.out (fun _ => ?_)
  clear hK K
  refine wpAnyH_mono (S' := (fun w' : World => Below Y3.heap.size Y3 w')) (fun w1 h => C3.out.trans (h.mono C3.out.size)) _ _ _ _ ?_
  clear C3
  try simp only [Act.put, List.setIfInBounds_toArray, List.set_cons_zero, List.set_cons_succ]
  refine wpAnyH_take (i := 16) (oi := { dst := some 75, op := Op.convert 22 9 (Operand.tmp 74), type := 9, pos := "law.go:38", after := #[{ on := 15, ground := Ground.data }, { on := 8, ground := Ground.guard }], guard := some (8, true) }) (v := ?_) rfl (by kernel_rfl) (by kernel_rfl) (by kernel_rfl) (fun _ _ _ h => h) (Or.inl ⟨by rfl, ?_⟩) (Below.refl _ _) ?_
  rotate_left
  · (intro w1 hS; have hW := E3.out.trans (hS.mono E3.out.size); have q := Hcz.out w1 hS; clear hW hS; go_simp; try with_reducible rfl)
  simp only [Act.put, List.setIfInBounds_toArray, List.set_cons_zero, List.set_cons_succ]
  refine wpAnyH_take (i := 17) (oi := { dst := some 76, op := Op.binOp BinOp.eql 9 (Operand.tmp 71) (Operand.tmp 75) 9, type := 4, pos := "law.go:38", after := #[{ on := 12, ground := Ground.data }, { on := 16, ground := Ground.data }, { on := 8, ground := Ground.guard }], guard := some (8, true) }) (v := ?_) rfl (by kernel_rfl) (by kernel_rfl) (by kernel_rfl) (fun _ _ _ h => h) (Or.inl ⟨by rfl, ?_⟩) (Below.refl _ _) ?_
  rotate_left
  · (intro w1 hS; go_simp; try with_reducible rfl)
  simp only [Act.put, List.setIfInBounds_toArray, List.set_cons_zero, List.set_cons_succ]
  refine wpAnyH_take (i := 18) (oi := { dst := some 77, op := Op.pick (Operand.tmp 67) (Operand.tmp 76) (Operand.const (Value.bool false)), type := 4, pos := "law.go:38", after := #[{ on := 8, ground := Ground.data }, { on := 17, ground := Ground.data }], guard := none }) (v := ?_) rfl (by kernel_rfl) (by kernel_rfl) (by kernel_rfl) (fun _ _ _ h => h) (Or.inl ⟨by rfl, ?_⟩) (Below.refl _ _) ?_
  rotate_left
  · (intro w1 hS; go_simp; try with_reducible rfl)
  simp only [Act.put, List.setIfInBounds_toArray, List.set_cons_zero, List.set_cons_succ]
  refine wpAnyH_take (i := 19) (oi := { dst := some 78, op := Op.move (Operand.tmp 77), type := 4, pos := "law.go:38", after := #[{ on := 18, ground := Ground.data }, { on := 15, ground := Ground.chain }], guard := none }) (v := ?_) rfl (by kernel_rfl) (by kernel_rfl) (by kernel_rfl) (fun _ _ _ h => h) (Or.inl ⟨by rfl, ?_⟩) (Below.refl _ _) ?_
  rotate_left
  · (intro w1 hS; go_simp; try with_reducible rfl)
  simp only [Act.put, List.setIfInBounds_toArray, List.set_cons_zero, List.set_cons_succ]
  refine wpAnyH_take (i := 20) (oi := { dst := some 79, op := Op.move (Operand.tmp 15), type := 22, pos := "law.go:38", after := #[{ on := 19, ground := Ground.guard }], guard := some (19, true) }) (v := ?_) rfl (by kernel_rfl) (by kernel_rfl) (by kernel_rfl) (fun _ _ _ h => h) (Or.inl ⟨by rfl, ?_⟩) (Below.refl _ _) ?_
  rotate_left
  · (intro w1 hS; go_simp; try with_reducible rfl)
  simp only [Act.put, List.setIfInBounds_toArray, List.set_cons_zero, List.set_cons_succ]
  refine wpAnyH_take (i := 21) (oi := { dst := some 80, op := Op.convert 22 9 (Operand.tmp 79), type := 9, pos := "law.go:38", after := #[{ on := 20, ground := Ground.data }, { on := 19, ground := Ground.guard }], guard := some (19, true) }) (v := ?_) rfl (by kernel_rfl) (by kernel_rfl) (by kernel_rfl) (fun _ _ _ h => h) (Or.inl ⟨by rfl, ?_⟩) (Below.refl _ _) ?_
  rotate_left
  · (intro w1 hS; have hW := E3.out.trans (hS.mono E3.out.size); have q := HM1.out w1 hW; clear hW hS; go_simp; try with_reducible rfl)
  simp only [Act.put, List.setIfInBounds_toArray, List.set_cons_zero, List.set_cons_succ]
  refine wpAnyH_take (i := 22) (oi := { dst := some 81, op := Op.move (Operand.tmp 17), type := 22, pos := "law.go:38", after := #[{ on := 19, ground := Ground.guard }], guard := some (19, true) }) (v := ?_) rfl (by kernel_rfl) (by kernel_rfl) (by kernel_rfl) (fun _ _ _ h => h) (Or.inl ⟨by rfl, ?_⟩) (Below.refl _ _) ?_
  rotate_left
  · (intro w1 hS; go_simp; try with_reducible rfl)
  simp only [Act.put, List.setIfInBounds_toArray, List.set_cons_zero, List.set_cons_succ]
  refine wpAnyH_take (i := 23) (oi := { dst := some 82, op := Op.convert 22 9 (Operand.tmp 81), type := 9, pos := "law.go:38", after := #[{ on := 22, ground := Ground.data }, { on := 19, ground := Ground.guard }], guard := some (19, true) }) (v := ?_) rfl (by kernel_rfl) (by kernel_rfl) (by kernel_rfl) (fun _ _ _ h => h) (Or.inl ⟨by rfl, ?_⟩) (Below.refl _ _) ?_
  rotate_left
  · (intro w1 hS; have hW := E3.out.trans (hS.mono E3.out.size); have q := HM2.out w1 hW; clear hW hS; go_simp; try with_reducible rfl)
  simp only [Act.put, List.setIfInBounds_toArray, List.set_cons_zero, List.set_cons_succ]
  refine wpAnyH_take (i := 24) (oi := { dst := some 83, op := Op.binOp BinOp.eql 9 (Operand.tmp 80) (Operand.tmp 82) 9, type := 4, pos := "law.go:38", after := #[{ on := 21, ground := Ground.data }, { on := 23, ground := Ground.data }, { on := 19, ground := Ground.guard }], guard := some (19, true) }) (v := ?_) rfl (by kernel_rfl) (by kernel_rfl) (by kernel_rfl) (fun _ _ _ h => h) (Or.inl ⟨by rfl, ?_⟩) (Below.refl _ _) ?_
  rotate_left
  · (intro w1 hS; go_simp; try with_reducible rfl)
  simp only [Act.put, List.setIfInBounds_toArray, List.set_cons_zero, List.set_cons_succ]
  refine wpAnyH_take (i := 25) (oi := { dst := some 84, op := Op.pick (Operand.tmp 78) (Operand.tmp 83) (Operand.const (Value.bool false)), type := 4, pos := "law.go:38", after := #[{ on := 19, ground := Ground.data }, { on := 24, ground := Ground.data }], guard := none }) (v := ?_) rfl (by kernel_rfl) (by kernel_rfl) (by kernel_rfl) (fun _ _ _ h => h) (Or.inl ⟨by rfl, ?_⟩) (Below.refl _ _) ?_
  rotate_left
  · (intro w1 hS; go_simp; try with_reducible rfl)
  simp only [Act.put, List.setIfInBounds_toArray, List.set_cons_zero, List.set_cons_succ]
  refine wpAnyH_take (i := 26) (oi := { dst := some 85, op := Op.move (Operand.tmp 84), type := 4, pos := "law.go:38", after := #[{ on := 25, ground := Ground.data }, { on := 19, ground := Ground.chain }], guard := none }) (v := ?_) rfl (by kernel_rfl) (by kernel_rfl) (by kernel_rfl) (fun _ _ _ h => h) (Or.inl ⟨by rfl, ?_⟩) (Below.refl _ _) ?_
  rotate_left
  · (intro w1 hS; go_simp; try with_reducible rfl)
  simp only [Act.put, List.setIfInBounds_toArray, List.set_cons_zero, List.set_cons_succ]
  refine wpAnyH_take (i := 27) (oi := { dst := some 86, op := Op.move (Operand.tmp 16), type := 4, pos := "law.go:38", after := #[{ on := 26, ground := Ground.guard }], guard := some (26, true) }) (v := ?_) rfl (by kernel_rfl) (by kernel_rfl) (by kernel_rfl) (fun _ _ _ h => h) (Or.inl ⟨by rfl, ?_⟩) (Below.refl _ _) ?_
  rotate_left
  · (intro w1 hS; go_simp; try with_reducible rfl)
  simp only [Act.put, List.setIfInBounds_toArray, List.set_cons_zero, List.set_cons_succ]
  refine wpAnyH_take (i := 28) (oi := { dst := some 87, op := Op.move (Operand.tmp 18), type := 4, pos := "law.go:38", after := #[{ on := 26, ground := Ground.guard }], guard := some (26, true) }) (v := ?_) rfl (by kernel_rfl) (by kernel_rfl) (by kernel_rfl) (fun _ _ _ h => h) (Or.inl ⟨by rfl, ?_⟩) (Below.refl _ _) ?_
  rotate_left
  · (intro w1 hS; go_simp; try with_reducible rfl)
  simp only [Act.put, List.setIfInBounds_toArray, List.set_cons_zero, List.set_cons_succ]
  refine wpAnyH_take (i := 29) (oi := { dst := some 88, op := Op.binOp BinOp.eql 4 (Operand.tmp 86) (Operand.tmp 87) 4, type := 4, pos := "law.go:38", after := #[{ on := 27, ground := Ground.data }, { on := 28, ground := Ground.data }, { on := 26, ground := Ground.guard }], guard := some (26, true) }) (v := ?_) rfl (by kernel_rfl) (by kernel_rfl) (by kernel_rfl) (fun _ _ _ h => h) (Or.inl ⟨by rfl, ?_⟩) (Below.refl _ _) ?_
  rotate_left
  · (intro w1 hS; go_simp; try with_reducible rfl)
  simp only [Act.put, List.setIfInBounds_toArray, List.set_cons_zero, List.set_cons_succ]
  refine wpAnyH_take (i := 30) (oi := { dst := some 89, op := Op.pick (Operand.tmp 85) (Operand.tmp 88) (Operand.const (Value.bool false)), type := 4, pos := "law.go:38", after := #[{ on := 26, ground := Ground.data }, { on := 29, ground := Ground.data }], guard := none }) (v := ?_) rfl (by kernel_rfl) (by kernel_rfl) (by kernel_rfl) (fun _ _ _ h => h) (Or.inl ⟨by rfl, ?_⟩) (Below.refl _ _) ?_
  rotate_left
  · (intro w1 hS; go_simp; try with_reducible rfl)
  simp only [Act.put, List.setIfInBounds_toArray, List.set_cons_zero, List.set_cons_succ]
  refine wpAnyH_take (i := 31) (oi := { dst := some 90, op := Op.move (Operand.tmp 89), type := 4, pos := "law.go:38", after := #[{ on := 30, ground := Ground.data }, { on := 26, ground := Ground.chain }], guard := none }) (v := ?_) rfl (by kernel_rfl) (by kernel_rfl) (by kernel_rfl) (fun _ _ _ h => h) (Or.inl ⟨by rfl, ?_⟩) (Below.refl _ _) ?_
  rotate_left
  · (intro w1 hS; go_simp; try with_reducible rfl)
  simp only [Act.put, List.setIfInBounds_toArray, List.set_cons_zero, List.set_cons_succ]
  refine wpAnyH_ready (rs := [32]) (by kernel_rfl) (by simp) ?_
  refine AllReadyH.cons (o := { dst := some 91, op := Op.call { callee := Callee.value (Operand.func 8), args := #[], argTypes := #[] }, type := 4, pos := "law.go:38", after := #[{ on := 31, ground := Ground.chain }, { on := 31, ground := Ground.guard }], guard := some (31, true) }) rfl (fun K hK => ?_) AllReadyH.nil
  go_simp
  refine (awake_any Y3).mono ?_
  rintro e Y4 ⟨rfl, hy⟩
  have E4 := Lib.hid (E3.out.trans (hy.mono E3.out.size))
  have C4 := Lib.hid hy
  clear hy E3
  refine hK.out _ _ C4.out (fun _ => ?_)
  clear hK K
  refine wpAnyH_mono (S' := (fun w' : World => Below Y4.heap.size Y4 w')) (fun w1 h => C4.out.trans (h.mono C4.out.size)) _ _ _ _ ?_
  clear C4
  try simp only [Act.put, List.setIfInBounds_toArray, List.set_cons_zero, List.set_cons_succ]
  refine wpAnyH_take (i := 33) (oi := { dst := some 92, op := Op.pick (Operand.tmp 90) (Operand.tmp 91) (Operand.const (Value.bool false)), type := 4, pos := "law.go:38", after := #[{ on := 31, ground := Ground.data }, { on := 32, ground := Ground.data }], guard := none }) (v := ?_) rfl (by kernel_rfl) (by kernel_rfl) (by kernel_rfl) (fun _ _ _ h => h) (Or.inl ⟨by rfl, ?_⟩) (Below.refl _ _) ?_
  rotate_left
  · (intro w1 hS; go_simp; try with_reducible rfl)
  simp only [Act.put, List.setIfInBounds_toArray, List.set_cons_zero, List.set_cons_succ]
  refine wpAnyH_take (i := 34) (oi := { dst := some 10, op := Op.assign (Operand.tmp 92), type := 4, pos := "law.go:38", after := #[{ on := 33, ground := Ground.data }, { on := 32, ground := Ground.chain }, { on := 0, ground := Ground.phase }, { on := 1, ground := Ground.phase }, { on := 2, ground := Ground.phase }, { on := 3, ground := Ground.phase }, { on := 4, ground := Ground.phase }, { on := 5, ground := Ground.phase }, { on := 6, ground := Ground.phase }, { on := 7, ground := Ground.phase }, { on := 8, ground := Ground.phase }, { on := 9, ground := Ground.phase }, { on := 10, ground := Ground.phase }, { on := 11, ground := Ground.phase }, { on := 12, ground := Ground.phase }, { on := 13, ground := Ground.phase }, { on := 14, ground := Ground.phase }, { on := 15, ground := Ground.phase }, { on := 16, ground := Ground.phase }, { on := 17, ground := Ground.phase }, { on := 18, ground := Ground.phase }, { on := 19, ground := Ground.phase }, { on := 20, ground := Ground.phase }, { on := 21, ground := Ground.phase }, { on := 22, ground := Ground.phase }, { on := 23, ground := Ground.phase }, { on := 24, ground := Ground.phase }, { on := 25, ground := Ground.phase }, { on := 26, ground := Ground.phase }, { on := 27, ground := Ground.phase }, { on := 28, ground := Ground.phase }, { on := 29, ground := Ground.phase }, { on := 30, ground := Ground.phase }, { on := 31, ground := Ground.phase }, { on := 32, ground := Ground.phase }, { on := 33, ground := Ground.phase }], guard := none }) (v := ?_) rfl (by kernel_rfl) (by kernel_rfl) (by kernel_rfl) (fun _ _ _ h => h) (Or.inl ⟨by rfl, ?_⟩) (Below.refl _ _) ?_
  rotate_left
  · (intro w1 hS; go_simp; try with_reducible rfl)
  simp only [Act.put, List.setIfInBounds_toArray, List.set_cons_zero, List.set_cons_succ]
  refine wpAnyH_done (by kernel_rfl) ?_ _
  go_wp2
  go_ret
  exact ⟨rfl, K8.out.trans (E4.out.mono K8.out.size)⟩
end Go.Proofs.Ythjaolngfjfldaa

/- An address that came in, opened. -/
namespace Go.Proofs.Ythjaolngfjfldaa
open Go.ChangeShapes Go.WideShapes Go.ChangeAt Go.RowKit

theorem open_addr {H : Type} {enc : TypeId × Value → H} {W : World} {base b0 : Nat} {spare : Nat → Bool} {held : Bool} {r : Reach} {v : Value} {d : DataW H} {p : List MemPlace}
    (hv : Value.okWide Try.prog W r b0 25 v) (h : DataW.Trod enc Try.prog W base spare held 25 v d p) : ∃ b bs, v = adr b bs ∧ bs.length = 16 ∧ ∀ n ∈ bs, n < 256 := by
  obtain ⟨cs, rfl, hsz⟩ := okWide_struct Try.underlying25 hv
  have hC : Try.prog.cellsOf 25 = 17 := by kernel_rfl
  obtain ⟨fuel, hf⟩ := h
  obtain ⟨y0, y1, n, _, hl, h0, h1⟩ := trod_struct2 Try.underlying25 hf
  have hc4 : Try.prog.cellsOf 4 = 1 := by kernel_rfl
  have hc5 : Try.prog.cellsOf 5 = 1 := by kernel_rfl
  have hc22 : Try.prog.cellsOf 23 = 16 := by kernel_rfl
  rw [hC] at hl
  obtain ⟨l⟩ := cs
  have hl : l.length = 17 := hl
  have h0 : DataW.trod enc Try.prog W base spare held n 4 ((l.drop 0).take (Try.prog.cellsOf 4)) = some y0 := h0
  have h1 : DataW.trod enc Try.prog W base spare held n 23 ((l.drop 1).take (Try.prog.cellsOf 23)) = some y1 := h1
  rw [hc4] at h0
  rw [hc22] at h1
  obtain ⟨b, e0, _⟩ := DataW.trod_bool Try.underlying4 h0
  obtain ⟨xs, m, _, _, hl1, hx, hi⟩ := DataW.trod_array Try.underlying23 h1
  match l, hl with
  | c :: r, hl =>
    simp only [List.length_cons] at hl
    have hl : r.length = 16 := by omega
    have e0 : c = .bool b := by simpa using e0
    subst e0
    have hrr : List.take 16 (List.drop 1 (Value.bool b :: r)) = r := by simp [List.take_of_length_le (Nat.le_of_eq hl)]
    rw [hrr] at hi
    have hn : ∀ i, i < 16 → ∃ z : Nat, r[i]? = some (.int .u8 (z : Int)) ∧ z < 256 := fun i hi16 => by
      have h := hi i hi16
      rw [hc5, Nat.mul_one] at h
      rw [List.getElem?_eq_getElem (by omega)] at h
      obtain ⟨z, ez, _, hw⟩ := DataW.trod_int Try.underlying5 h
      obtain ⟨z0, z1⟩ := wf_u8 z hw
      have e : r[i]? = some (.int .u8 z) := by
        have := congrArg (·[0]?) ez
        simpa [List.getElem?_take, List.getElem?_drop] using this
      refine ⟨z.toNat, ?_, by omega⟩
      rw [e, Int.toNat_of_nonneg z0]
    refine ⟨b, r.map fun x => match x with | .int _ z => z.toNat | _ => 0, ?_, by simpa using hl, ?_⟩
    · unfold adr cellsA
      congr 3
      rw [List.map_map]
      refine (List.map_id r).symm.trans (List.map_congr_left fun x hx => ?_)
      obtain ⟨i, hi', ex⟩ := List.mem_iff_getElem.1 hx
      obtain ⟨z, ez, _⟩ := hn i (by omega)
      rw [List.getElem?_eq_getElem hi', ex] at ez
      obtain rfl := Option.some.inj ez
      simp
    · intro q hq
      obtain ⟨x, hx, rfl⟩ := List.mem_map.1 hq
      obtain ⟨i, hi', ex⟩ := List.mem_iff_getElem.1 hx
      obtain ⟨z, ez, hz⟩ := hn i (by omega)
      rw [List.getElem?_eq_getElem hi', ex] at ez
      obtain rfl := Option.some.inj ez
      simpa using hz
end Go.Proofs.Ythjaolngfjfldaa

