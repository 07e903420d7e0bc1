/- Texts that the walks of this seat lean on, put together. -/
import Derived.Lib.AppendZeros
import Derived.Lib.AppendZerosOnto
import Derived.Laws.AppendOwnNone
import Derived.BigFrame
import Derived.WalkKit
import Derived.LoopTactic
import Derived.Handy
import Derived.BigQuiet
import Derived.Deep.QuietTactic
import Derived.Test.YthionipmohbnhaaTk
import Derived.Test.YthionipmohbnhaaM01
import Derived.Test.YthionipmohbnhaaM02
import Derived.Test.YthionipmohbnhaaM03
import Derived.Test.YthionipmohbnhaaM04
namespace Go.Proofs.Ythionipmohbnhaa
open Go.RowKit
theorem zeroCells_one (v : Value) (k : Nat) : (Builtin.zeroCells #[v] k).toList = List.replicate k v := by
  unfold Builtin.zeroCells
  apply List.ext_getElem
  · simp
  · intro i h1 h2
    simp [Nat.mod_one]
theorem run_app_zeros (w : World) (ty base : Nat) (g n cap k : Nat) (xs : List Value) (hown : w.ownsRow base 5 1 (.slice (some ⟨g, 0, none⟩) n cap) n xs) (h0 : 0 < k) (hn : n + k ≤ 1000000) (hbase : base ≤ w.heap.size) :
    ∃ v' w', (Builtin.append_ #[22, 3] ty #[.slice (some ⟨g, 0, none⟩) n cap, .int .i64 (k : Int)]).run Try.prog w = .ok v' w' ∧ w'.ownsRow base 5 1 v' (n + k) (xs ++ List.replicate k (Value.int .u8 0)) ∧ w.grownBy w' (some g) := by
  obtain ⟨i, hi, hz, hs, hby⟩ := info_parts Try.info5
  have ht : Try.prog.underlying 22 = some (.slice 5) := Try.underlying22
  have htn : Try.prog.underlying 3 = some (.int .i64) := Try.underlying3
  have hzc : (Value.int .u8 0).cells = #[.int .u8 0] := rfl
  have hown0 := hown
  obtain ⟨hxl, ⟨h1, -⟩ | ⟨g', cap', cur, hv, hbg, hg, hnc, hcm, hcs, htake⟩⟩ := hown
  · cases h1
  cases hv
  simp only [Nat.mul_one] at hxl hcs htake
  by_cases hroom : n + k ≤ cap
  · have hst := run_storeCells_at Try.prog g n 5 (List.replicate k (.int .u8 0)) 0 cur w hg (by simp; omega) (by intro u hu; rw [(List.mem_replicate.1 hu).2]; rfl)
    simp only [Nat.add_zero] at hst
    have hw : IntKind.i64.wrap (k : Int) = k := by rw [IntKind.wrap_i64]; omega
    have hneg : ¬ ((k : Int) < 0) := by omega
    have h48 : ¬ (281474976710656 < (k : Int)) := by omega
    have hk : k ≠ 0 := by omega
    have hr : (Builtin.append_ #[22, 3] ty #[.slice (some ⟨g, 0, none⟩) n cap, .int .i64 (k : Int)]).run Try.prog w = .ok (.slice (some ⟨g, 0, none⟩) (n + k) cap) (w.setRow g (cur.toList.take n ++ List.replicate k (Value.int .u8 0) ++ cur.toList.drop (n + (List.replicate k (Value.int .u8 0)).length)).toArray) := by
      simp [Builtin.append_, run_underlying ht, run_underlying htn, sizeOf, typeInfo, zeroValue, hi, hz, hs, hby, asInt, asIntOf, hw, hneg, h48, hk, hroom, hzc, zeroCells_one, Addr.add_lit]
      simp [hst]
    refine ⟨_, _, hr, ⟨by simp [hxl], .inr ⟨g, cap, _, rfl, hbg, setRow_heap w g cur _ 5 _ hg, hroom, hcm, ?_, ?_⟩⟩, ⟨rfl, rfl, rfl, by simp, fun q _ hq => setRow_other w g q _ (fun e => hq (by rw [e]))⟩⟩
    · simp; omega
    · rw [htake, Nat.mul_one, List.take_append_of_le_length (by simp [hxl]), List.take_of_length_le (by simp [hxl])]
  · have hf := run_firstCells_some (P := Try.prog) w.drew 1 n ⟨g, 0, none⟩ n cap xs (by simpa using hxl) (fun j u hu => hown0.cells (g := g) rfl j u hu)
    have hfit := growslice_fits (need := n + k) (old := cap) (bytes := i.bytes) (by omega) (by rw [hby]; omega)
    have hr := Lib.run_append_grow_zeros (P := Try.prog) w 22 3 ty 5 i (.int .u8 0) .i64 .i64 ht htn hi hz (some ⟨g, 0, none⟩) n cap xs (by rw [hs]; exact hf) k h0 (by omega) (by omega) (by omega) (by rw [hby]; omega) hfit
    have hge := grownCap_ge w (n + k) cap 5
    have hcm2 : grownCap w (n + k) cap 5 ≤ maxLen := grownCap_le_maxLen w (n + k) cap 5 (by unfold maxLen; omega)
    refine ⟨_, _, hr, ⟨by simp [hxl], .inr ⟨w.heap.size, _, _, rfl, hbase, heap_alloc_new w.drew _, hge, hcm2, ?_, ?_⟩⟩, ⟨rfl, rfl, rfl, by simp, fun q hq _ => heap_alloc_old w.drew _ hq⟩⟩
    · simp only [Array.size_append, List.size_toArray, size_zeroCells, hzc, hxl]
      simp
      omega
    · simp only [Array.toList_append, List.append_assoc, hzc, zeroCells_one, Nat.mul_one]
      rw [← List.append_assoc, List.take_append_of_le_length (by simp [hxl]), List.take_of_length_le (by simp [hxl])]
end Go.Proofs.Ythionipmohbnhaa
namespace Go.Proofs.Ythionipmohbnhaa
open Go.RowKit
theorem wpList_app {w : World} {ops : Array Oper} {rest : List Oper} {o : Oper} {a : Act} {Q : Exit → Act → World → Prop} (hw : Region.wanted o (yielded ops a.tmps) = true) (s x : Operand)
    (ho : o.op = .call { callee := .builtin .append, args := #[s, x], argTypes := #[22, 22] })
    (base : Nat) (v : Value) (n : Nat) (zs : List Nat) (hs : a.eval s = v) (hown : w.ownsRow base 5 1 v n (nus .u8 zs))
    (ao : Option Addr) (len cap : Nat) (bs : List Nat) (hx : a.eval x = .slice ao len cap) (hr : Rd w (.slice ao len cap) (nus .u8 bs)) (hn : ao = none → cap = 0) (hlen : n + len ≤ 1000000) (hbase : base ≤ w.heap.size)
    (h : ∀ v' w', w'.ownsRow base 5 1 v' (n + len) (nus .u8 (zs ++ bs)) → w.grownBy w' v.ownBlock → wpList Try.prog ops Q rest (a.put o.dst v') w') :
    wpList Try.prog ops Q (o :: rest) a w := by
  obtain ⟨i0, hi, hz0, hz1, hz2⟩ := info_parts Try.info5
  obtain ⟨a', cap', e, h1, h2, h3⟩ := hr
  simp only [Value.slice.injEq] at e
  obtain ⟨rfl, he, rfl⟩ := e
  rw [nus_length] at he h1 h3
  subst he
  refine BigFrame.wpList_want hw fun K hK => ?_
  cases ao with
  | none =>
    obtain rfl := hn rfl
    have hb : bs = [] := by cases bs with | nil => rfl | cons _ _ => simp at h1
    subst hb
    have hrun := run_append_owned_none (P := Try.prog) (w := w) base 22 o.type 5 i0 1 Try.underlying22 hi v n (nus .u8 zs) hown
    unfold Oper.wp
    simp [execOp, ho, resolve, invoke, builtin, hs, hx, hrun, Result.andThen]
    exact hK _ _ (h v w (by simpa using hown) (World.grownBy.refl _ _))
  | some ad =>
    refine wp_append_own w s x 22 ho base 5 i0 (.int .u8 0) 1 1 Try.underlying22 hi hz0 hz1 hz2 rfl (by decide) v n (nus .u8 zs) hs hown ad bs.length cap (nus .u8 bs) hx (by rw [nus_length]; omega) ?_ (oneCell_nus _ _) (by unfold maxLen; omega) (by omega) hbase ?_
    · intro j u hj
      rcases h3 with h3 | ⟨b, off, e, hb, hcc⟩
      · rw [h3] at hj; simp at hj
      · cases e
        have hjl : j < (nus .u8 bs).length := (List.getElem?_eq_some_iff.1 hj).1
        rw [nus_length] at hjl
        rw [← hj]
        rw [Addr.add_lit]; exact hcc j hjl
    · intro v' w' hown' hgr _
      exact hK _ _ (h v' w' (by rw [nus_append]; exact hown') hgr)
theorem own_none (w : World) (e : TypeId) : (w.alloc (.cells #[] e)).ownsRow w.heap.size e 1 (.slice (some ⟨w.heap.size, 0, none⟩) 0 0) 0 (nus .u8 []) :=
  own_of_heap (show (w.heap.push (.cells #[] e))[w.heap.size]? = _ by simp [nus]) (Nat.le_refl _) rfl (by simp [maxLen])
end Go.Proofs.Ythionipmohbnhaa
namespace Go.Proofs.Ythionipmohbnhaa
open Go.RowKit
theorem own_front {w : World} {base g cap : Nat} {e : TypeId} {cur : Array Value} (hg : w.heap[g]? = some (.cells cur e (0, 0))) (hb : base ≤ g) (hc : cur.size = cap) (hm : cap ≤ maxLen) :
    w.ownsRow base e 1 (.slice (some ⟨g, 0, none⟩) 0 cap) 0 (nus .u8 []) :=
  ⟨by simp [nus], .inr ⟨g, cap, cur, rfl, hb, hg, Nat.zero_le _, hm, by simpa using hc, by simp [nus]⟩⟩
set_option maxRecDepth 100000 in
set_option maxHeartbeats 1000000 in
theorem grow_nil (n : Nat) (w : World) (h0 : 0 < n) (hn : n ≤ 1000000) :
    Calls Try.prog 41 #[.slice none 0 0, .int .i64 (n : Int)] w fun e w' => ∃ x, e = .returned x ∧ w'.ownsRow w.heap.size 5 1 x 0 (nus .u8 []) ∧ Below w.heap.size w w' := by
  obtain ⟨i, hi, hz, hs, hby⟩ := info_parts Try.info5
  have hr := Lib.hid (Lib.run_append_nil_zeros (P := Try.prog) w 22 3 22 5 i (.int .u8 0) .i64 .i64 Try.underlying22 Try.underlying3 hi hz n h0 (by omega) (by omega) (by rw [hby]; omega))
  have hcm := grownCap_le_maxLen w n 0 5 (by unfold maxLen; omega)
  have hge := grownCap_ge w n 0 5
  have hsz : (Builtin.zeroCells (Value.int .u8 0).cells n ++ Builtin.zeroCells (Value.int .u8 0).cells (grownCap w n 0 5 - n)).size = grownCap w n 0 5 := by
    rw [Array.size_append, size_zeroCells, size_zeroCells]
    show n * 1 + (grownCap w n 0 5 - n) * 1 = _
    omega
  generalize Builtin.zeroCells (Value.int .u8 0).cells n ++ Builtin.zeroCells (Value.int .u8 0).cells (grownCap w n 0 5 - n) = cur at *
  have hown := Lib.hid (own_front (base := w.heap.size) (heap_alloc_new w.drew (.cells cur 5)) (Nat.le_refl _) hsz hcm)
  have hbel := Lib.hid ((Below.refl w.heap.size w).drew.alloc (Nat.le_refl _) (.cells cur 5))
  generalize grownCap w n 0 5 = cap at *
  unfold maxLen at hcm
  clear hi hz hs hby hsz
  have hd1 : decide ((n : Int) < 0) = false := decide_eq_false (by omega)
  have hd2 : decide (0 < n) = true := decide_eq_true (by omega)
  go_enter Try.func41, Try.ntmps41
  go_wp2_with (refine Lib.wpList_append_run _ rfl (.tmp 20) (.tmp 21) 22 3 rfl _ _ rfl rfl _ _ hr.out ?_)
  go_wp2
  go_ret
  exact ⟨_, rfl, hown.out, hbel.out⟩
end Go.Proofs.Ythionipmohbnhaa
namespace Go.Proofs.Ythionipmohbnhaa
open Go.RowKit
set_option maxRecDepth 100000 in
set_option maxHeartbeats 400000 in
theorem word_any (v : Value) (k : Nat) (zs : List Nat) (w : World) (hr : Rd w v (nus .u8 zs)) (hb : ∀ c ∈ zs, c < 256) (hk : k + 2 ≤ zs.length) :
    Calls Try.prog 64 #[v, .int .i64 (k : Int)] w fun e w' => e = .returned (.int .u16 (u2 zs k : Nat)) ∧ w = w' := by
  have H := Lib.hid (get16_yes v k zs w hr hb hk)
  have HE := Lib.hid (be_u2 zs k hk)
  clear hr hb hk
  go_enter Try.func64, Try.ntmps64
  go_wp2_with fail
  refine H.out.mono ?_; rintro e w' ⟨rfl, rfl⟩
  rw [HE.out]
  go_wp2
  go_ret
  exact ⟨rfl, rfl⟩
set_option maxRecDepth 100000 in
set_option maxHeartbeats 400000 in
theorem tcpSize_any (v : Value) (zs : List Nat) (w : World) (hr : Rd w v (nus .u8 zs)) (hb : ∀ c ∈ zs, c < 256) (h20 : 20 ≤ zs.length) :
    Calls Try.prog 76 #[v] w fun e w' => e = .returned (.int .i64 (tz zs : Nat)) ∧ w = w' := by
  obtain ⟨a, cap, rfl, h1, h2⟩ := rd_shape hr
  obtain ⟨b, off, rfl, hc⟩ := hr.cells (by omega)
  have c0 := hc 12 (by omega)
  have hx := getD_lt zs hb 12
  have hH := Lib.hid (show (4 * (zs.getD 12 0 / 16) : Nat) = tz zs from rfl)
  unfold maxLen at h2
  generalize zs.length = len at *
  generalize zs.getD 12 0 = x at *
  clear hc hr hb
  go_enter Try.func76, Try.ntmps76
  go_wp2
  go_ret
  exact ⟨ret_int (by rw [← hH.out]; go_num), rfl⟩
set_option maxRecDepth 100000 in
set_option maxHeartbeats 400000 in
theorem udpSize_any (v : Value) (zs : List Nat) (w : World) (hr : Rd w v (nus .u8 zs)) (hb : ∀ c ∈ zs, c < 256) (h8 : 8 ≤ zs.length) :
    Calls Try.prog 77 #[v] w fun e w' => e = .returned (.int .i64 (u2 zs 4 : Nat)) ∧ w = w' := by
  have H := Lib.hid (word_any v 4 zs w hr hb (by omega))
  have hl := u2_lt zs 4 hb
  generalize u2 zs 4 = x at *
  clear hr hb h8
  go_enter Try.func77, Try.ntmps77
  go_wp2_with fail
  refine H.out.mono ?_; rintro e w' ⟨rfl, rfl⟩
  go_wp2
  go_ret
  exact ⟨rfl, rfl⟩
def mf (least n : Nat) (s : Nat) : Nat := if n < least then 1 else if s < least ∨ n < s then 3 else 0
set_option maxRecDepth 100000 in
set_option maxHeartbeats 800000 in
theorem misfit_tcp (v : Value) (zs : List Nat) (least : Nat) (s : Nat) (w : World) (hr : Rd w v (nus .u8 zs)) (_hl : least ≤ 20) (_hs : s < 65536)
    (hf : least ≤ zs.length → ∀ v2, v2 = v → Calls Try.prog 76 #[v2] w fun e w' => e = .returned (.int .i64 (s : Nat)) ∧ w = w') :
    Calls Try.prog 75 #[v, .int .i64 (least : Int), .func (.func 76) #[] #[]] w fun e w' => e = .returned (.int .i64 (mf least zs.length s : Nat)) ∧ w = w' := by
  obtain ⟨a, cap, rfl, h1, h2⟩ := rd_shape hr
  unfold maxLen at h2
  obtain ⟨F, hF⟩ : ∃ F, F = mf least zs.length s := ⟨_, rfl⟩
  rw [show (Calls Try.prog 75 #[.slice a zs.length cap, .int .i64 (least : Int), .func (.func 76) #[] #[]] w fun e w' => e = .returned (.int .i64 (mf least zs.length s : Nat)) ∧ w = w') = _ from by rw [← hF]]
  unfold mf at hF
  have HF := Lib.hid hF
  generalize zs.length = n at *
  clear hr hF
  by_cases h : n < least
  · have e : F = 1 := by rw [HF.out, if_pos h]
    subst e
    clear hf HF
    have hd : decide (n < least) = true := decide_eq_true h
    go_enter Try.func75, Try.ntmps75
    go_wp2
    go_ret
    exact ⟨rfl, rfl⟩
  have C := Lib.hid (hf (by omega) _ rfl)
  have hd : decide (n < least) = false := decide_eq_false h
  have HF2 := Lib.hid (HF.out.trans (if_neg h))
  clear hf HF h
  by_cases h3 : s < least
  · have e : F = 3 := by rw [HF2.out, if_pos (.inl h3)]
    subst e
    have hd2 : decide (s < least) = true := decide_eq_true h3
    clear HF2 h3
    go_enter Try.func75, Try.ntmps75
    go_wp2_with fail
    refine C.out.mono ?_; rintro e w' ⟨rfl, rfl⟩
    go_wp2
    go_ret
    exact ⟨rfl, rfl⟩
  have hd2 : decide (s < least) = false := decide_eq_false h3
  by_cases h4 : n < s
  · have e : F = 3 := by rw [HF2.out, if_pos (.inr h4)]
    subst e
    have hd3 : decide (n < s) = true := decide_eq_true h4
    clear HF2 h3 h4
    go_enter Try.func75, Try.ntmps75
    go_wp2_with fail
    refine C.out.mono ?_; rintro e w' ⟨rfl, rfl⟩
    go_wp2
    go_ret
    exact ⟨rfl, rfl⟩
  have e : F = 0 := by rw [HF2.out, if_neg (by omega)]
  subst e
  have hd3 : decide (n < s) = false := decide_eq_false h4
  clear HF2 h3 h4
  go_enter Try.func75, Try.ntmps75
  go_wp2_with fail
  refine C.out.mono ?_; rintro e w' ⟨rfl, rfl⟩
  go_wp2
  go_ret
  exact ⟨rfl, rfl⟩
set_option maxRecDepth 100000 in
set_option maxHeartbeats 800000 in
theorem misfit_udp (v : Value) (zs : List Nat) (least : Nat) (s : Nat) (w : World) (hr : Rd w v (nus .u8 zs)) (_hl : least ≤ 20) (_hs : s < 65536)
    (hf : least ≤ zs.length → ∀ v2, v2 = v → Calls Try.prog 77 #[v2] w fun e w' => e = .returned (.int .i64 (s : Nat)) ∧ w = w') :
    Calls Try.prog 75 #[v, .int .i64 (least : Int), .func (.func 77) #[] #[]] w fun e w' => e = .returned (.int .i64 (mf least zs.length s : Nat)) ∧ w = w' := by
  obtain ⟨a, cap, rfl, h1, h2⟩ := rd_shape hr
  unfold maxLen at h2
  obtain ⟨F, hF⟩ : ∃ F, F = mf least zs.length s := ⟨_, rfl⟩
  rw [show (Calls Try.prog 75 #[.slice a zs.length cap, .int .i64 (least : Int), .func (.func 77) #[] #[]] w fun e w' => e = .returned (.int .i64 (mf least zs.length s : Nat)) ∧ w = w') = _ from by rw [← hF]]
  unfold mf at hF
  have HF := Lib.hid hF
  generalize zs.length = n at *
  clear hr hF
  by_cases h : n < least
  · have e : F = 1 := by rw [HF.out, if_pos h]
    subst e
    clear hf HF
    have hd : decide (n < least) = true := decide_eq_true h
    go_enter Try.func75, Try.ntmps75
    go_wp2
    go_ret
    exact ⟨rfl, rfl⟩
  have C := Lib.hid (hf (by omega) _ rfl)
  have hd : decide (n < least) = false := decide_eq_false h
  have HF2 := Lib.hid (HF.out.trans (if_neg h))
  clear hf HF h
  by_cases h3 : s < least
  · have e : F = 3 := by rw [HF2.out, if_pos (.inl h3)]
    subst e
    have hd2 : decide (s < least) = true := decide_eq_true h3
    clear HF2 h3
    go_enter Try.func75, Try.ntmps75
    go_wp2_with fail
    refine C.out.mono ?_; rintro e w' ⟨rfl, rfl⟩
    go_wp2
    go_ret
    exact ⟨rfl, rfl⟩
  have hd2 : decide (s < least) = false := decide_eq_false h3
  by_cases h4 : n < s
  · have e : F = 3 := by rw [HF2.out, if_pos (.inr h4)]
    subst e
    have hd3 : decide (n < s) = true := decide_eq_true h4
    clear HF2 h3 h4
    go_enter Try.func75, Try.ntmps75
    go_wp2_with fail
    refine C.out.mono ?_; rintro e w' ⟨rfl, rfl⟩
    go_wp2
    go_ret
    exact ⟨rfl, rfl⟩
  have e : F = 0 := by rw [HF2.out, if_neg (by omega)]
  subst e
  have hd3 : decide (n < s) = false := decide_eq_false h4
  clear HF2 h3 h4
  go_enter Try.func75, Try.ntmps75
  go_wp2_with fail
  refine C.out.mono ?_; rintro e w' ⟨rfl, rfl⟩
  go_wp2
  go_ret
  exact ⟨rfl, rfl⟩
set_option maxRecDepth 100000 in
set_option maxHeartbeats 800000 in
theorem fault_any (p : Nat) (v : Value) (zs : List Nat) (w : World) (hr : Rd w v (nus .u8 zs)) (hb : ∀ c ∈ zs, c < 256) :
    Calls Try.prog 61 #[.int .u8 (p : Int), v] w fun e w' => e = .returned (.int .i64 (fs p zs : Nat)) ∧ w = w' := by
  by_cases h6 : p = 6
  · subst h6
    have C := Lib.hid (misfit_tcp v zs 20 (tz zs) w hr (by omega) (by have := getD_lt zs hb 12; unfold tz; omega) (fun h v2 e => by subst e; exact tcpSize_any _ zs w hr hb h))
    have E : Hid (mf 20 zs.length (tz zs) = fs 6 zs) := rfl
    clear hr hb
    go_enter Try.func61, Try.ntmps61
    go_wp2_with fail
    refine C.out.mono ?_; rintro e w' ⟨rfl, rfl⟩
    rw [E.out]
    go_wp2
    go_ret
    exact ⟨rfl, rfl⟩
  have g6 : ((p : Int) == 6) = false := by rw [beq_eq_false_iff_ne]; omega
  by_cases h17 : p = 17
  · subst h17
    have C := Lib.hid (misfit_udp v zs 8 (u2 zs 4) w hr (by omega) (u2_lt zs 4 hb) (fun h v2 e => by subst e; exact udpSize_any _ zs w hr hb h))
    have E : Hid (mf 8 zs.length (u2 zs 4) = fs 17 zs) := rfl
    clear hr hb h6 g6
    go_enter Try.func61, Try.ntmps61
    go_wp2_with fail
    refine C.out.mono ?_; rintro e w' ⟨rfl, rfl⟩
    rw [E.out]
    go_wp2
    go_ret
    exact ⟨rfl, rfl⟩
  have g17 : ((p : Int) == 17) = false := by rw [beq_eq_false_iff_ne]; omega
  have e : fs p zs = 6 := by unfold fs; rw [if_neg h6, if_neg h17]
  rw [e]
  clear hr hb h6 h17 e
  go_enter Try.func61, Try.ntmps61
  go_wp2
  go_ret
  exact ⟨rfl, rfl⟩
set_option maxRecDepth 100000 in
set_option maxHeartbeats 800000 in
theorem without_any (p : Nat) (v : Value) (zs : List Nat) (w : World) (hr : Rd w v (nus .u8 zs)) (hb : ∀ c ∈ zs, c < 256) (h8 : p = 17 → 8 ≤ zs.length) :
    Calls Try.prog 62 #[.int .u8 (p : Int), v] w fun e w' => e = .returned (.bool (wo p zs)) ∧ w = w' := by
  by_cases h17 : p = 17
  · subst h17
    have C := Lib.hid (word_any v 6 zs w hr hb (by omega))
    obtain ⟨r, hr2⟩ : ∃ r, r = wo 17 zs := ⟨_, rfl⟩
    rw [← hr2]
    have hw : ((u2 zs 6 : Int) == 0) = r := by
      rw [hr2]; unfold wo
      by_cases h : u2 zs 6 = 0
      · rw [h]; rfl
      · have h1 : ((u2 zs 6 : Int) == 0) = false := by rw [beq_eq_false_iff_ne]; omega
        rw [h1, decide_eq_false (by omega)]
    have HW := Lib.hid hw
    generalize u2 zs 6 = x at *
    clear hr hb h8 hw hr2
    cases r with
    | false =>
      have hw := HW.out
      clear HW
      go_enter Try.func62, Try.ntmps62
      go_wp2_with fail
      refine C.out.mono ?_; rintro e w' ⟨rfl, rfl⟩
      go_wp2
      go_ret
      exact ⟨rfl, rfl⟩
    | true =>
      have hw := HW.out
      clear HW
      go_enter Try.func62, Try.ntmps62
      go_wp2_with fail
      refine C.out.mono ?_; rintro e w' ⟨rfl, rfl⟩
      go_wp2
      go_ret
      exact ⟨rfl, rfl⟩
  · have g : ((p : Int) == 17) = false := by rw [beq_eq_false_iff_ne]; omega
    have e : wo p zs = false := by unfold wo; rw [decide_eq_false (by omega)]
    rw [e]
    clear hr hb h17 e h8
    go_enter Try.func62, Try.ntmps62
    go_wp2
    go_ret
    exact ⟨rfl, rfl⟩
end Go.Proofs.Ythionipmohbnhaa
namespace Go.Proofs.Ythionipmohbnhaa
open Go.RowKit
theorem i30 : (Try.prog.info? 94).map (·.size) = some 3 := by kernel_rfl
def h00 : Array Value := #[.int .u16 0, .int .u16 0, .int .u8 0]
set_option maxRecDepth 100000 in
set_option maxHeartbeats 1000000 in
theorem read_no (p : Nat) (v : Value) (zs : List Nat) (w : World) (hr : Rd w v (nus .u8 zs)) (hb : ∀ c ∈ zs, c < 256) (h : fs p zs ≠ 0) :
    Calls Try.prog 53 #[.int .u8 (p : Int), v] w fun e w' => e = .returned (.tuple #[.agg (hs7 p zs), .int .i64 (fs p zs : Nat)]) ∧ Below w.heap.size w w' := by
  have CF := Lib.hid (fun W (h : Rd W v (nus .u8 zs)) => fault_any p v zs W h hb)
  have K := Lib.hid (Below.refl w.heap.size w)
  have HR := Lib.hid hr
  have hh : hs7 p zs = h00 := by unfold hs7; rw [if_neg h]; rfl
  rw [hh]
  obtain ⟨a, cap, rfl, -, -⟩ := rd_shape hr
  have Y0 : Hid (h00.size = Array.size (#[Value.int .u16 0, .int .u16 0, .int .u8 0] : Array Value)) := rfl
  have Z0 := Lib.hid (i30.trans (congrArg some (show 3 = h00.size from rfl)))
  have A0 := Lib.hid (show h00.all (·.oneCell') = true by simp [h00, Value.oneCell'])
  generalize fs p zs = r at *
  generalize zs.length = n at *
  have g0 : ((r : Int) != 0) = true := by simp; omega
  clear hr hb h hh
  go_enter Try.func53, Try.ntmps53
  have hal := (Below.refl w.heap.size w).alloc (Nat.le_refl _) (.cells #[Value.int .u16 0, .int .u16 0, .int .u8 0] 94)
  replace K := Lib.hid (K.out.trans (hal.mono K.out.size))
  replace HR := Lib.hid (HR.out.below hal)
  have HH := Lib.hid (Blk.new w 94 #[Value.int .u16 0, .int .u16 0, .int .u8 0])
  clear hal
  go_wp2_with fail
  have hzV1 : Hid ((w.alloc (.cells #[Value.int .u16 0, .int .u16 0, .int .u8 0] 94)).heap.size = w.heap.size + 1) := by show _ = _; simp only [World.size_alloc]
  generalize (w.alloc (.cells #[Value.int .u16 0, .int .u16 0, .int .u8 0] 94)) = V1 at *
  refine (CF.out _ HR.out).mono ?_
  rintro e V2 ⟨rfl, rfl⟩
  go_wp2_with (((with_reducible refine wpList_blk_store (op := ⟨none, .store 94 (.tmp 4) (.tmp 12), _, _, _, _⟩) ?sg1 94 (.tmp 4) (.tmp 12) ?so1 (w.heap.size) h00 ?sx1 ?sy1 HH.out Y0.out Z0.out A0.out ?_); (case sg1 => rfl); (case so1 => rfl); (case sx1 => rfl); (case sy1 => rfl)))
  intro V3 hA hF hB
  replace K := Lib.hid (K.out.trans (hB _ (by omega)))
  replace HH := Lib.hid hA
  clear hA hF hB
  go_wp2
  have hrun := run_blk_load (P := Try.prog) 94 w.heap.size _ HH.out Try.underlying94 rfl Z0.out
  exact bodyPost_ret (results_cell_tmp 4 94 5 w.heap.size _ Try.results53 rfl hrun) rfl ⟨rfl, K.out⟩
set_option maxRecDepth 100000 in
set_option maxHeartbeats 1000000 in
theorem read_udp (v : Value) (zs : List Nat) (w : World) (hr : Rd w v (nus .u8 zs)) (hb : ∀ c ∈ zs, c < 256) (h : fs 17 zs = 0) :
    Calls Try.prog 53 #[.int .u8 17, v] w fun e w' => e = .returned (.tuple #[.agg (hs7 17 zs), .int .i64 0]) ∧ Below w.heap.size w w' := by
  have hlen : 8 ≤ zs.length := by
    rcases fs_yes 17 zs h with ⟨e, -, -⟩ | ⟨-, h1, -⟩
    · omega
    · exact h1
  obtain ⟨a, cap, rfl, hlc, hlm⟩ := rd_shape hr
  obtain ⟨b, off, rfl, hce⟩ := hr.cells (by omega)
  have HA := Lib.hid ((Below.refl w.heap.size w).alloc (Nat.le_refl _) (.cells #[Value.int .u16 0, .int .u16 0, .int .u8 0] 94))
  have CF := Lib.hid (fault_any 17 _ zs _ (hr.below HA.out) hb)
  rw [h] at CF
  have HB := Lib.hid ((Below.refl w.heap.size w).alloc (Nat.le_refl _) (.cells #[Value.int .u16 (u2 zs 0 : Nat), .int .u16 (u2 zs 2 : Nat), .int .u8 (fl 17 zs : Nat)] 94))
  have hh : hs7 17 zs = #[.int .u16 (u2 zs 0 : Nat), .int .u16 (u2 zs 2 : Nat), .int .u8 (fl 17 zs : Nat)] := by unfold hs7; rw [if_pos h]
  rw [hh]
  have CW := Lib.hid (word_any _ 0 zs _ (hr.below HA.out) hb (by omega))
  have CX := Lib.hid (word_any _ 2 zs _ (hr.below HA.out) hb (by omega))
  have hf : fl 17 zs = 0 := rfl
  rw [hf] at HB ⊢
  clear hf
  generalize u2 zs 0 = x0 at *
  generalize u2 zs 2 = x2 at *
  unfold maxLen at hlm
  generalize zs.length = n at *
  clear hr hb h hh hce
  go_enter Try.func53, Try.ntmps53
  go_wp2_with fail
  refine CF.out.mono ?_; rintro e w' ⟨rfl, rfl⟩
  go_wp2_with fail
  refine CW.out.mono ?_; rintro e w' ⟨rfl, rfl⟩
  go_wp2_with fail
  refine CX.out.mono ?_; rintro e w' ⟨rfl, rfl⟩
  go_wp2
  refine bodyPost_ret (v := .tuple #[.agg #[.int .u16 x0, .int .u16 x2, .int .u8 ((0 : Nat) : Nat)], .int .i64 0]) (by simp [results, Try.results53, go_sem]) rfl ⟨rfl, HB.out⟩
set_option maxRecDepth 100000 in
set_option maxHeartbeats 1000000 in
theorem read_tcp (v : Value) (zs : List Nat) (w : World) (hr : Rd w v (nus .u8 zs)) (hb : ∀ c ∈ zs, c < 256) (h : fs 6 zs = 0) :
    Calls Try.prog 53 #[.int .u8 6, v] w fun e w' => e = .returned (.tuple #[.agg (hs7 6 zs), .int .i64 0]) ∧ Below w.heap.size w w' := by
  have hlen : 20 ≤ zs.length := by
    rcases fs_yes 6 zs h with ⟨-, h1, -⟩ | ⟨e, -, -⟩
    · exact h1
    · omega
  obtain ⟨a, cap, rfl, hlc, hlm⟩ := rd_shape hr
  obtain ⟨b, off, rfl, hce⟩ := hr.cells (by omega)
  have HA := Lib.hid ((Below.refl w.heap.size w).alloc (Nat.le_refl _) (.cells #[Value.int .u16 0, .int .u16 0, .int .u8 0] 94))
  have CF := Lib.hid (fault_any 6 _ zs _ (hr.below HA.out) hb)
  rw [h] at CF
  have HB := Lib.hid ((Below.refl w.heap.size w).alloc (Nat.le_refl _) (.cells #[Value.int .u16 (u2 zs 0 : Nat), .int .u16 (u2 zs 2 : Nat), .int .u8 (fl 6 zs : Nat)] 94))
  have hh : hs7 6 zs = #[.int .u16 (u2 zs 0 : Nat), .int .u16 (u2 zs 2 : Nat), .int .u8 (fl 6 zs : Nat)] := by unfold hs7; rw [if_pos h]
  rw [hh]
  have CW := Lib.hid (word_any _ 0 zs _ (hr.below HA.out) hb (by omega))
  have CX := Lib.hid (word_any _ 2 zs _ (hr.below HA.out) hb (by omega))
  have C13 := hce 13 (by omega)
  have hb0 := rd_cell C13
  have c13 := C13
  have C13 := Lib.hid C13
  have hf : fl 6 zs = zs.getD 13 0 := rfl
  rw [hf] at HB ⊢
  have h13n : (13 : Int) < (zs.length : Int) := by omega
  generalize zs.getD 13 0 = x13 at *
  clear hf
  generalize u2 zs 0 = x0 at *
  generalize u2 zs 2 = x2 at *
  unfold maxLen at hlm
  generalize zs.length = n at *
  clear hr hb h hh hce
  go_enter Try.func53, Try.ntmps53
  go_wp2_with fail
  refine CF.out.mono ?_; rintro e w' ⟨rfl, rfl⟩
  go_wp2_with fail
  refine CW.out.mono ?_; rintro e w' ⟨rfl, rfl⟩
  go_wp2_with fail
  refine CX.out.mono ?_; rintro e w' ⟨rfl, rfl⟩
  go_wp2
  refine bodyPost_ret (v := .tuple #[.agg #[.int .u16 x0, .int .u16 x2, .int .u8 (x13 : Nat)], .int .i64 0]) (by simp [results, Try.results53, go_sem]) rfl ⟨rfl, HB.out⟩
theorem read_any (p : Nat) (v : Value) (zs : List Nat) (w : World) (hr : Rd w v (nus .u8 zs)) (hb : ∀ c ∈ zs, c < 256) :
    Calls Try.prog 53 #[.int .u8 (p : Int), v] w fun e w' => e = .returned (.tuple #[.agg (hs7 p zs), .int .i64 (fs p zs : Nat)]) ∧ Below w.heap.size w w' := by
  by_cases h : fs p zs = 0
  · rw [h]
    rcases fs_yes p zs h with ⟨rfl, -⟩ | ⟨rfl, -⟩
    · exact read_tcp v zs w hr hb h
    · exact read_udp v zs w hr hb h
  · exact read_no p v zs w hr hb h
end Go.Proofs.Ythionipmohbnhaa
namespace Go.Proofs.Ythionipmohbnhaa
open Go.RowKit
theorem i34 : (Try.prog.info? 71).map (·.size) = some 3 := by kernel_rfl
theorem below_three {w : World} (c : Obj) (n : Nat) (a b d : Value) : Below w.heap.size w (((((w.alloc c).drewN n).setCell ⟨w.heap.size, 0, none⟩ a).setCell ⟨w.heap.size, 1, none⟩ b).setCell ⟨w.heap.size, 2, none⟩ d) :=
  (((below_drewN ((Below.refl w.heap.size w).alloc (Nat.le_refl _) c) n).setCell (Nat.le_refl _) _).setCell (Nat.le_refl _) _).setCell (Nat.le_refl _) _
theorem below_one {w : World} (n : Nat) (c : Obj) : Below w.heap.size w ((w.alloc c).drewN n) := below_drewN ((Below.refl w.heap.size w).alloc (Nat.le_refl _) c) n
set_option maxRecDepth 100000 in
set_option maxHeartbeats 400000 in
theorem rsumAt_any (p : Nat) (hp : p = 6 ∨ p = 17) (w : World) : Calls Try.prog 30 #[.int .u8 (p : Int)] w fun e w' => e = .returned (.int .i64 (sAt p : Nat)) ∧ w = w' := by
  rcases hp with rfl | rfl
  all_goals
    go_enter Try.func30, Try.ntmps30
    go_wp2
    go_ret
    exact ⟨rfl, rfl⟩
set_option maxRecDepth 100000 in
set_option maxHeartbeats 1000000 in
theorem rread_no (p : Nat) (v : Value) (zs : List Nat) (w : World) (hr : Rd w v (nus .u8 zs)) (hb : ∀ c ∈ zs, c < 256) (h : fs p zs ≠ 0) :
    Calls Try.prog 36 #[.int .u8 (p : Int), v] w fun e w' => e = .returned (.tuple #[.agg (rs7 p zs), .int .i64 (fs p zs : Nat)]) ∧ Below w.heap.size w w' := by
  obtain ⟨a, cap, rfl, hlc, hlm⟩ := rd_shape hr
  have hh : rs7 p zs = #[.int .i64 0, .int .i64 0, .int .u8 0] := by unfold rs7; rw [if_neg h]
  rw [hh]
  have HB := Lib.hid (fun n => below_one (w := w) n (.cells #[Value.int .i64 0, .int .i64 0, .int .u8 0] 71))
  have HA := (Below.refl w.heap.size w).alloc (Nat.le_refl _) (.cells #[Value.int .i64 0, .int .i64 0, .int .u8 0] 71)
  unfold maxLen at hlm
  clear hh
  by_cases h6 : p = 6
  · subst h6
    by_cases h20 : zs.length < 20
    · have e : fs 6 zs = 1 := by unfold fs; rw [if_pos rfl, if_pos h20]
      rw [e]
      have hd : decide ((zs.length : Int) < 20) = true := decide_eq_true (by omega)
      generalize zs.length = n at *
      clear hr hb h e h20 HA
      go_enter Try.func36, Try.ntmps36
      go_wp2
      exact bodyPost_ret (v := .tuple #[.agg #[.int .i64 0, .int .i64 0, .int .u8 0], .int .i64 1]) (by simp [results, Try.results36, go_sem]) rfl ⟨rfl, HB.out 0⟩
    · obtain ⟨b, off, rfl, hce⟩ := hr.cells (by omega)
      have c12 := hce 12 (by omega)
      have hb0 := rd_cell c12
      have hx := getD_lt zs hb 12
      have hbad : tz zs < 20 ∨ zs.length < tz zs := by
        have := h; unfold fs at this; rw [if_pos rfl, if_neg h20] at this
        by_cases h2 : tz zs < 20 ∨ zs.length < tz zs
        · exact h2
        · rw [if_neg h2] at this; omega
      have e : fs 6 zs = 3 := by unfold fs; rw [if_pos rfl, if_neg h20, if_pos hbad]
      rw [e]
      have hd : decide ((zs.length : Int) < 20) = false := decide_eq_false (by omega)
      unfold tz at hbad
      generalize zs.length = n at *
      generalize zs.getD 12 0 = x at *
      have h0 : (12 : Int) < (n : Int) := by omega
      by_cases hx4 : 4 * (x / 16) < 20
      · have hd2 : decide ((x : Int) / 16 * 4 < 20) = true := decide_eq_true (by omega)
        clear hr hb h e h20 HA hbad hce hx4
        go_enter Try.func36, Try.ntmps36
        go_wp2
        exact bodyPost_ret (v := .tuple #[.agg #[.int .i64 0, .int .i64 0, .int .u8 0], .int .i64 3]) (by simp [results, Try.results36, go_sem]) rfl ⟨rfl, HB.out 0⟩
      · have hd2 : decide ((x : Int) / 16 * 4 < 20) = false := decide_eq_false (by omega)
        have hd3 : decide ((n : Int) < (x : Int) / 16 * 4) = true := decide_eq_true (by omega)
        clear hr hb h e h20 HA hbad hce hx4
        go_enter Try.func36, Try.ntmps36
        go_wp2
        exact bodyPost_ret (v := .tuple #[.agg #[.int .i64 0, .int .i64 0, .int .u8 0], .int .i64 3]) (by simp [results, Try.results36, go_sem]) rfl ⟨rfl, HB.out 0⟩
  have g6 : ((p : Int) == 6) = false := by rw [beq_eq_false_iff_ne]; omega
  by_cases h17 : p = 17
  · subst h17
    by_cases h8 : zs.length < 8
    · have e : fs 17 zs = 1 := by unfold fs; rw [if_neg h6, if_pos rfl, if_pos h8]
      rw [e]
      have hd : decide ((zs.length : Int) < 8) = true := decide_eq_true (by omega)
      generalize zs.length = n at *
      clear hr hb h e h8 HA h6 g6
      go_enter Try.func36, Try.ntmps36
      go_wp2
      exact bodyPost_ret (v := .tuple #[.agg #[.int .i64 0, .int .i64 0, .int .u8 0], .int .i64 1]) (by simp [results, Try.results36, go_sem]) rfl ⟨rfl, HB.out 0⟩
    · have hbad : u2 zs 4 < 8 ∨ zs.length < u2 zs 4 := by
        have := h; unfold fs at this; rw [if_neg h6, if_pos rfl, if_neg h8] at this
        by_cases h2 : u2 zs 4 < 8 ∨ zs.length < u2 zs 4
        · exact h2
        · rw [if_neg h2] at this; omega
      have e : fs 17 zs = 3 := by unfold fs; rw [if_neg h6, if_pos rfl, if_neg h8, if_pos hbad]
      rw [e]
      have C := Lib.hid (be16_any a zs.length cap 4 zs _ (hr.below HA) hb (by omega))
      have hd : decide ((zs.length : Int) < 8) = false := decide_eq_false (by omega)
      have E4 := Lib.hid (show zs.getD 4 0 * 256 + zs.getD (4 + 1) 0 = u2 zs 4 from rfl)
      generalize u2 zs 4 = x at *
      generalize zs.length = n at *
      by_cases hx4 : x < 8
      · have hd2 : decide ((x : Int) < 8) = true := decide_eq_true (by omega)
        clear hr hb h e h8 HA h6 g6 hbad hx4
        go_enter Try.func36, Try.ntmps36
        go_wp2_with fail
        refine C.out.mono ?_; rintro e w' ⟨rfl, n1, rfl⟩
        rw [E4.out]
        go_wp2
        exact bodyPost_ret (v := .tuple #[.agg #[.int .i64 0, .int .i64 0, .int .u8 0], .int .i64 3]) (by simp [results, Try.results36, go_sem]) rfl ⟨rfl, below_three _ _ _ _ _⟩
      · have hd2 : decide ((x : Int) < 8) = false := decide_eq_false (by omega)
        have hd3 : decide (n < x) = true := decide_eq_true (by omega)
        clear hr hb h e h8 HA h6 g6 hbad hx4
        go_enter Try.func36, Try.ntmps36
        go_wp2_with fail
        refine C.out.mono ?_; rintro e w' ⟨rfl, n1, rfl⟩
        rw [E4.out]
        go_wp2
        exact bodyPost_ret (v := .tuple #[.agg #[.int .i64 0, .int .i64 0, .int .u8 0], .int .i64 3]) (by simp [results, Try.results36, go_sem]) rfl ⟨rfl, below_three _ _ _ _ _⟩
  have g17 : ((p : Int) == 17) = false := by rw [beq_eq_false_iff_ne]; omega
  have e : fs p zs = 6 := by unfold fs; rw [if_neg h6, if_neg h17]
  rw [e]
  generalize zs.length = n at *
  clear hr hb h e h6 h17 HA
  go_enter Try.func36, Try.ntmps36
  go_wp2
  exact bodyPost_ret (v := .tuple #[.agg #[.int .i64 0, .int .i64 0, .int .u8 0], .int .i64 6]) (by simp [results, Try.results36, go_sem]) rfl ⟨rfl, HB.out 0⟩
set_option maxRecDepth 100000 in
set_option maxHeartbeats 1000000 in
theorem rread_udp (v : Value) (zs : List Nat) (w : World) (hr : Rd w v (nus .u8 zs)) (hb : ∀ c ∈ zs, c < 256) (h : fs 17 zs = 0) :
    Calls Try.prog 36 #[.int .u8 17, v] w fun e w' => e = .returned (.tuple #[.agg (rs7 17 zs), .int .i64 0]) ∧ Below w.heap.size w w' := by
  obtain ⟨a, cap, rfl, hlc, hlm⟩ := rd_shape hr
  obtain ⟨hl8, h8, hle⟩ : 8 ≤ zs.length ∧ 8 ≤ u2 zs 4 ∧ u2 zs 4 ≤ zs.length := by
    rcases fs_yes 17 zs h with ⟨e, -⟩ | ⟨-, h1, h2, h3⟩
    · omega
    · exact ⟨h1, h2, h3⟩
  have hh : rs7 17 zs = #[.int .i64 (u2 zs 0 : Nat), .int .i64 (u2 zs 2 : Nat), .int .u8 0] := by unfold rs7; rw [if_pos h]; rfl
  rw [hh]
  have HB := Lib.hid (fun n => below_one (w := w) n (.cells #[Value.int .i64 (u2 zs 0 : Nat), .int .i64 (u2 zs 2 : Nat), .int .u8 0] 71))
  have HA := (Below.refl w.heap.size w).alloc (Nat.le_refl _) (.cells #[Value.int .i64 0, .int .i64 0, .int .u8 0] 71)
  unfold maxLen at hlm
  have C := Lib.hid (fun m => be16_any a zs.length cap 4 zs _ (hr.below (below_drewN HA m)) hb (by omega))
  have C0 := Lib.hid (fun m => be16_any a zs.length cap 0 zs _ (hr.below (below_drewN HA m)) hb (by omega))
  have C2 := Lib.hid (fun m => be16_any a zs.length cap 2 zs _ (hr.below (below_drewN HA m)) hb (by omega))
  have hd : decide ((zs.length : Int) < 8) = false := decide_eq_false (by omega)
  have E4 := Lib.hid (show zs.getD 4 0 * 256 + zs.getD (4 + 1) 0 = u2 zs 4 from rfl)
  have E0 := Lib.hid (show zs.getD 0 0 * 256 + zs.getD (0 + 1) 0 = u2 zs 0 from rfl)
  have E2 := Lib.hid (show zs.getD 2 0 * 256 + zs.getD (2 + 1) 0 = u2 zs 2 from rfl)
  generalize u2 zs 4 = x at *
  generalize u2 zs 0 = x0 at *
  generalize u2 zs 2 = x2 at *
  generalize zs.length = n at *
  have hd2 : decide ((x : Int) < 8) = false := decide_eq_false (by omega)
  have hd3 : decide (n < x) = false := decide_eq_false (by omega)
  clear hr hb h HA hh hl8 h8 hle
  go_enter Try.func36, Try.ntmps36
  go_wp2_with fail
  refine (C.out 0).mono ?_; rintro e w' ⟨rfl, n1, rfl⟩
  rw [E4.out]
  go_wp2_with fail
  refine (C0.out n1).mono ?_; rintro e w' ⟨rfl, n2, rfl⟩
  rw [E0.out]
  go_wp2_with fail
  refine (C2.out (n1 + n2)).mono ?_; rintro e w' ⟨rfl, n3, rfl⟩
  rw [E2.out]
  go_wp2
  exact bodyPost_ret (v := .tuple #[.agg #[.int .i64 x0, .int .i64 x2, .int .u8 0], .int .i64 0]) (by simp [results, Try.results36, go_sem]) rfl ⟨rfl, below_three _ _ _ _ _⟩
set_option maxRecDepth 100000 in
set_option maxHeartbeats 2000000 in
theorem rread_tcp (v : Value) (zs : List Nat) (w : World) (hr : Rd w v (nus .u8 zs)) (hb : ∀ c ∈ zs, c < 256) (h : fs 6 zs = 0) :
    Calls Try.prog 36 #[.int .u8 6, v] w fun e w' => e = .returned (.tuple #[.agg (rs7 6 zs), .int .i64 0]) ∧ Below w.heap.size w w' := by
  obtain ⟨a, cap, rfl, hlc, hlm⟩ := rd_shape hr
  obtain ⟨hl8, h8, hle⟩ : 20 ≤ zs.length ∧ 20 ≤ tz zs ∧ tz zs ≤ zs.length := by
    rcases fs_yes 6 zs h with ⟨-, h1, h2, h3⟩ | ⟨e, -⟩
    · exact ⟨h1, h2, h3⟩
    · omega
  obtain ⟨b, off, rfl, hce⟩ := hr.cells (by omega)
  have c12 := hce 12 (by omega)
  have c13 := hce 13 (by omega)
  have hb0 := rd_cell c12
  have hx := getD_lt zs hb 12
  unfold tz at h8 hle
  have hh : rs7 6 zs = #[.int .i64 (u2 zs 0 : Nat), .int .i64 (u2 zs 2 : Nat), .int .u8 (zs.getD 13 0 : Nat)] := by unfold rs7; rw [if_pos h]; rfl
  rw [hh]
  have CB0 := Lib.hid (fun W (h : Rd W (.slice (some ⟨b, off, none⟩) zs.length cap) (nus .u8 zs)) => be16_b _ _ _ 0 zs W h hb (by omega))
  have CB2 := Lib.hid (fun W (h : Rd W (.slice (some ⟨b, off, none⟩) zs.length cap) (nus .u8 zs)) => be16_b _ _ _ 2 zs W h hb (by omega))
  unfold maxLen at hlm
  have hd : decide ((zs.length : Int) < 20) = false := decide_eq_false (by omega)
  have HR := Lib.hid hr
  generalize u2 zs 0 = x0 at *
  generalize u2 zs 2 = x2 at *
  generalize zs.getD 12 0 = x at *
  generalize zs.getD 13 0 = x13 at *
  generalize zs.length = n at *
  have hd2 : decide ((x : Int) / 16 * 4 < 20) = false := decide_eq_false (by omega)
  have hd3 : decide ((n : Int) < (x : Int) / 16 * 4) = false := decide_eq_false (by omega)
  have h0n : (12 : Int) < (n : Int) := by omega
  have h1n : (13 : Int) < (n : Int) := by omega
  have C13 := Lib.hid c13
  obtain ⟨H, hH⟩ : ∃ H, H = (#[.int .i64 (x0 : Nat), .int .i64 (x2 : Nat), .int .u8 (x13 : Nat)] : Array Value) := ⟨_, rfl⟩
  have HE := Lib.hid hH
  have YH : Hid (H.size = Array.size (#[Value.int .i64 0, .int .i64 0, .int .u8 0] : Array Value)) := by subst hH; rfl
  have ZH := Lib.hid (i34.trans (congrArg some (show 3 = H.size by subst hH; rfl)))
  have AH := Lib.hid (show H.all (·.oneCell') = true by subst hH; simp [Value.oneCell'])
  rw [← hH]
  have HBD : Hid (Try.prog.built 71 [(0, .int .i64 (x0 : Int)), (1, .int .i64 (x2 : Int)), (2, .int .u8 (x13 : Int))] = some H) := by subst hH; show _ = _; kernel_rfl
  have K := Lib.hid (Below.refl w.heap.size w)
  clear hr hb h hce hh hl8 h8 hle c13 hH
  go_enter Try.func36, Try.ntmps36
  have hal := (Below.refl w.heap.size w).alloc (Nat.le_refl _) (.cells #[Value.int .i64 0, .int .i64 0, .int .u8 0] 71)
  replace K := Lib.hid (K.out.trans (hal.mono K.out.size))
  have HH := Lib.hid (Blk.new w 71 #[Value.int .i64 0, .int .i64 0, .int .u8 0])
  clear hal
  go_wp2_with fail
  have hzV1 : Hid ((w.alloc (.cells #[Value.int .i64 0, .int .i64 0, .int .u8 0] 71)).heap.size = w.heap.size + 1) := by show _ = _; simp only [World.size_alloc]
  generalize (w.alloc (.cells #[Value.int .i64 0, .int .i64 0, .int .u8 0] 71)) = V1 at *
  have c12 := (K.out.cell (p := ⟨b, off + 12, none⟩) hb0).trans c12
  go_upto_region 8 with fail
  clear c12
  have hlow : w.heap.size ≤ V1.heap.size := K.out.size
  have hlt : w.heap.size < V1.heap.size := HH.out.lt
  refine wp_region_held (S := (fun w' : World => Below (w.heap.size) V1 w')) (by kernel_rfl) ?_
  change wpAnyH _ _ _ _ _ _ _ _ V1.drew
  have hy : Below V1.heap.size V1 V1.drew := (Below.refl _ _).drew
  have hE0 : Below (w.heap.size) V1 V1.drew := (Below.refl _ _).drew
  replace HH := Lib.hid (HH.out.below hy HH.out.lt)
  clear hy
  generalize V1.drew = Y8x0 at hE0 HH ⊢
  have E0 := Lib.hid hE0
  clear hE0
  refine tkA 0 (?_) ?_ E0.out ?_
  rotate_left
  · (intro w1 hS; go_simp; try with_reducible rfl)
  simp only [Act.put, tS1, tS2, tS3]
  refine tkA 2 (?_) ?_ E0.out ?_
  rotate_left
  · (intro w1 hS; go_simp; try with_reducible rfl)
  simp only [Act.put, tS1, tS2, tS3]
  refine tkA 4 (?_) ?_ E0.out ?_
  rotate_left
  · (intro w1 hS; go_simp; try with_reducible rfl)
  simp only [Act.put, tS1, tS2, tS3]
  refine tkA 5 (?_) ?_ E0.out ?_
  rotate_left
  · (intro w1 hS; go_simp; try with_reducible rfl)
  simp only [Act.put, tS1, tS2, tS3]
  refine tkA 6 (?_) ?_ E0.out ?_
  rotate_left
  · (intro w1 hS; have hW := hS; have q := (K.out.trans hW).cell (p := ⟨b, off + 13, none⟩) hb0 |>.trans C13.out; clear hW hS; go_simp; try with_reducible rfl)
  simp only [Act.put, tS1, tS2, tS3]
  refine tkO 1 (fun KK hK => ?_)
  go_simp
  refine (CB0.out Y8x0 (HR.out.below (K.out.trans E0.out))).mono ?_
  rintro e Y8x1 ⟨rfl, hy⟩
  replace HH := Lib.hid (HH.out.below hy HH.out.lt)
  have E1 := Lib.hid (E0.out.trans (hy.mono (Nat.le_trans hlow E0.out.size)))
  have C1 := Lib.hid E1.out
  clear hy E0
  refine hK.out _ _ C1.out (fun _ => ?_)
  clear hK KK
  clear C1
  try simp only [Act.put, tS1, tS2, tS3]
  refine tkO 3 (fun KK hK => ?_)
  go_simp
  refine (CB2.out Y8x1 (HR.out.below (K.out.trans E1.out))).mono ?_
  rintro e Y8x2 ⟨rfl, hy⟩
  replace HH := Lib.hid (HH.out.below hy HH.out.lt)
  have E2 := Lib.hid (E1.out.trans (hy.mono (Nat.le_trans hlow E1.out.size)))
  have C2 := Lib.hid E2.out
  clear hy E1
  refine hK.out _ _ C2.out (fun _ => ?_)
  clear hK KK
  clear C2
  try simp only [Act.put, tS1, tS2, tS3]
  refine tkA 7 (.agg H) ?_ E2.out ?_
  · (intro w1 hS; exact exec_build 71 _ rfl #[(0, .int .i64 (x0 : Int)), (1, .int .i64 (x2 : Int)), (2, .int .u8 (x13 : Int))] (by kernel_rfl) H HBD.out)
  simp only [Act.put, tS1, tS2, tS3]
  refine tkO 8 (fun KK hK => ?_)
  rw [if_pos (by rfl)]
  refine wp_blk_store 71 (.tmp 4) (.tmp 37) rfl H rfl rfl HH.out YH.out ZH.out AH.out ?_
  intro Y8x3 hA hF hB
  have E3 := Lib.hid (E2.out.trans (hB _ (Nat.le_refl _)))
  replace HH := Lib.hid hA
  clear hA hF hB E2
  refine hK.out _ _ E3.out (fun _ => ?_)
  clear hK KK
  try simp only [Act.put]
  refine tkA 9 (?_) ?_ E3.out ?_
  rotate_left
  · (intro w1 hS; go_simp; try with_reducible rfl)
  simp only [Act.put, tS1, tS2, tS3]
  refine wpAnyH_done (by kernel_rfl) ?_ _
  replace K := Lib.hid (K.out.trans (E3.out.mono (by omega)))
  clear E3
  go_wp2
  have hrun := run_blk_load (P := Try.prog) 71 w.heap.size _ HH.out Try.underlying71 rfl ZH.out
  exact bodyPost_ret (results_cell_tmp 4 71 5 w.heap.size _ Try.results36 rfl hrun) rfl ⟨rfl, K.out⟩
theorem rread_any (p : Nat) (v : Value) (zs : List Nat) (w : World) (hr : Rd w v (nus .u8 zs)) (hb : ∀ c ∈ zs, c < 256) :
    Calls Try.prog 36 #[.int .u8 (p : Int), v] w fun e w' => e = .returned (.tuple #[.agg (rs7 p zs), .int .i64 (fs p zs : Nat)]) ∧ Below w.heap.size w w' := by
  by_cases h : fs p zs = 0
  · rw [h]
    rcases fs_yes p zs h with ⟨rfl, -⟩ | ⟨rfl, -⟩
    · exact rread_tcp v zs w hr hb h
    · exact rread_udp v zs w hr hb h
  · exact rread_no p v zs w hr hb h
end Go.Proofs.Ythionipmohbnhaa
namespace Go.Proofs.Ythionipmohbnhaa
open Go.RowKit
def bg : Nat → Nat → List Nat
  | 0, _ => []
  | n + 1, v => bg n (v / 256) ++ [v % 256]
theorem bg_length : ∀ n v, (bg n v).length = n
  | 0, _ => rfl
  | n + 1, v => by simp [bg, bg_length n]
theorem bg_lt : ∀ n v, ∀ c ∈ bg n v, c < 256
  | 0, _, c, h => by simp [bg] at h
  | n + 1, v, c, h => by
    simp only [bg, List.mem_append, List.mem_singleton] at h
    rcases h with h | rfl
    · exact bg_lt n _ c h
    · omega
theorem bg_cons : ∀ j v, bg (j + 1) v = (v / 256 ^ j % 256) :: bg j v
  | 0, v => by simp [bg]
  | j + 1, v => by
    rw [bg, bg_cons j (v / 256), bg]
    simp only [List.cons_append, Nat.div_div_eq_div_mul]
    rw [Nat.pow_succ, Nat.mul_comm 256]
def putRow (zs : List Nat) (k n v j : Nat) : List Nat := zs.take (k + n - j) ++ (bg j v ++ zs.drop (k + n))
theorem putRow_length (zs : List Nat) (k n v j : Nat) (h : k + n ≤ zs.length) (hj : j ≤ n) : (putRow zs k n v j).length = zs.length := by
  simp [putRow, bg_length]; omega
theorem putRow_zero (zs : List Nat) (k n v : Nat) : putRow zs k n v 0 = zs := by simp [putRow, bg]
theorem putRow_step (zs : List Nat) (k n v j : Nat) (h : k + n ≤ zs.length) (hj : j < n) : (putRow zs k n v j).set (k + n - 1 - j) (v / 256 ^ j % 256) = putRow zs k n v (j + 1) := by
  unfold putRow
  rw [bg_cons]
  rw [show k + n - j = (k + n - (j + 1)) + 1 from by omega, List.take_succ_eq_append_getElem (by omega), show k + n - 1 - j = k + n - (j + 1) from by omega]
  rw [List.append_assoc, List.set_append_right _ _ (by simp; omega)]
  simp
  rw [show k + n - (j + 1) - min (k + n - (j + 1)) zs.length = 0 from by omega]
  rfl
theorem nus_set (k : IntKind) (zs : List Nat) (i n : Nat) : (nus k zs).set i (.int k (n : Int)) = nus k (zs.set i n) := by simp [nus, List.map_set]
theorem grownBy_trans {a b c : World} {r : Option Nat} (h : a.grownBy b r) (g : b.grownBy c r) : a.grownBy c r :=
  ⟨g.os.trans h.os, g.tape.trans h.tape, g.output.trans h.output, Nat.le_trans h.size g.size, fun k hk hr => (g.block k (Nat.lt_of_lt_of_le hk h.size) hr).trans (h.block k hk hr)⟩
end Go.Proofs.Ythionipmohbnhaa
namespace Go.Proofs.Ythionipmohbnhaa
open Go.RowKit
def ov (B T : List Nat) (k : Nat) : List Nat := B.take k ++ (T ++ B.drop (k + T.length))
theorem ov_length (B T : List Nat) (k : Nat) (h : k + T.length ≤ B.length) : (ov B T k).length = B.length := by simp [ov]; omega
theorem ov_lt (B T : List Nat) (k : Nat) (hB : ∀ c ∈ B, c < 256) (hT : ∀ c ∈ T, c < 256) : ∀ c ∈ ov B T k, c < 256 := by
  intro c hc
  rcases List.mem_append.1 hc with h | h
  · exact hB c (List.mem_of_mem_take h)
  · rcases List.mem_append.1 h with h | h
    · exact hT c h
    · exact hB c (List.mem_of_mem_drop h)
theorem put_ov (zs : List Nat) (k v : Nat) : putRow zs k 2 v 2 = ov zs (bg 2 v) k := by
  unfold putRow ov
  rw [bg_length, Nat.add_sub_cancel]
theorem ov_get (B T : List Nat) (k i : Nat) (h : k + T.length ≤ B.length) : (ov B T k).getD i 0 = if k ≤ i ∧ i < k + T.length then T.getD (i - k) 0 else B.getD i 0 := by
  have hl : (B.take k).length = k := by simp; omega
  unfold ov
  simp only [List.getD_eq_getElem?_getD]
  by_cases h1 : i < k
  · rw [if_neg (by omega), List.getElem?_append_left (by omega), List.getElem?_take_of_lt h1]
  · rw [List.getElem?_append_right (by omega), hl]
    by_cases h2 : i < k + T.length
    · rw [if_pos (by omega), List.getElem?_append_left (by omega)]
    · rw [if_neg (by omega), List.getElem?_append_right (by omega), List.getElem?_drop]
      congr 2; omega
theorem ov_get_off (B T : List Nat) (k i : Nat) (h : k + T.length ≤ B.length) (hi : i < k ∨ k + T.length ≤ i) : (ov B T k).getD i 0 = B.getD i 0 := by
  rw [ov_get B T k i h, if_neg (by omega)]
theorem ov_u2_off (B T : List Nat) (k i : Nat) (h : k + T.length ≤ B.length) (hi : i + 2 ≤ k ∨ k + T.length ≤ i) : u2 (ov B T k) i = u2 B i := by
  unfold u2
  rw [ov_get_off B T k i h (by omega), ov_get_off B T k (i + 1) h (by omega)]
theorem ov_take (B T : List Nat) (k n : Nat) (h : k + T.length ≤ n) (_hn : n ≤ B.length) : (ov B T k).take n = ov (B.take n) T k := by
  unfold ov
  rw [List.take_append, List.take_append, List.take_take, List.take_take, Nat.min_comm n k, List.drop_take]
  have hl : (B.take k).length = k := by simp; omega
  rw [hl, List.take_of_length_le (l := T) (by omega)]
  congr 2
  · congr 1; omega
theorem ov_take_off (B T : List Nat) (k n : Nat) (h : n ≤ k) (hk : k + T.length ≤ B.length) : (ov B T k).take n = B.take n := by
  unfold ov
  rw [List.take_append_of_le_length (by simp; omega), List.take_take, Nat.min_eq_left h]
theorem ov_drop_off (B T : List Nat) (k n : Nat) (h : k + T.length ≤ n) (hk : k + T.length ≤ B.length) : (ov B T k).drop n = B.drop n := by
  have hl : (B.take k).length = k := by simp; omega
  unfold ov
  rw [List.drop_append, List.drop_append, List.drop_drop, hl, List.drop_eq_nil_of_le (by omega), List.drop_eq_nil_of_le (by omega)]
  simp only [List.nil_append]
  congr 1; omega
theorem ov_mid (B T : List Nat) (k : Nat) (hk : k + T.length ≤ B.length) : ((ov B T k).drop k).take T.length = T := by
  have hl : (B.take k).length = k := by simp; omega
  unfold ov
  rw [List.drop_append_of_le_length (by omega), List.drop_eq_nil_of_le (by omega), List.nil_append, List.take_append_of_le_length (Nat.le_refl _), List.take_length]
theorem mid_off (B T : List Nat) (k j m : Nat) (hk : k + T.length ≤ B.length) (h : j + m ≤ k ∨ k + T.length ≤ j) : ((ov B T k).drop j).take m = (B.drop j).take m := by
  rcases h with h | h
  · rw [List.take_drop, List.take_drop, ov_take_off B T k _ (by omega) hk]
  · rw [ov_drop_off B T k j h hk]
theorem ov_wsp (B T : List Nat) (k : Nat) (hk : k % 2 = 0) (h : k + T.length ≤ B.length) (hT : T.length % 2 = 0) :
    wsp 0 (ov B T k) + wsp 0 ((B.drop k).take T.length) = wsp 0 B + wsp 0 T := by
  have hl : (B.take k).length = k := by simp; omega
  have hl2 : ((B.drop k).take T.length).length = T.length := by simp; omega
  have hB : B = B.take k ++ ((B.drop k).take T.length ++ B.drop (k + T.length)) := by rw [← List.drop_drop, List.take_append_drop, List.take_append_drop]
  have h4 : wsp 0 B = wsp 0 (B.take k) + (wsp 0 ((B.drop k).take T.length) + wsp 0 (B.drop (k + T.length))) := by
    conv => lhs; rw [hB]
    rw [wsp_append, wsp_append, hl, hl2, wsp_eq _ (0 + k) 0 (by omega), wsp_eq _ (0 + k + T.length) 0 (by omega)]
  rw [h4]
  unfold ov
  rw [wsp_append, wsp_append, hl, wsp_eq T (0 + k) 0 (by omega), wsp_eq _ (0 + k + T.length) 0 (by omega)]
  omega
theorem wsp_bg (v : Nat) (h : v < 65536) : wsp 0 (bg 2 v) = v := by
  simp only [bg, wsp, List.nil_append, List.cons_append, Nat.zero_add]
  rw [wt_even 0 rfl, wt_odd 1 rfl]
  omega
theorem wsp_two_at (B : List Nat) (k : Nat) (h : k + 2 ≤ B.length) : wsp 0 ((B.drop k).take 2) = u2 B k := by
  have e : (B.drop k).take 2 = [B.getD k 0, B.getD (k + 1) 0] := by
    refine ext_getD _ _ 0 (by simp; omega) fun i hi => ?_
    have hi2 : i = 0 ∨ i = 1 := by simp at hi; omega
    rcases hi2 with rfl | rfl <;> simp [List.getD_eq_getElem?_getD]
  rw [e]
  simp only [wsp]
  rw [wt_even 0 rfl, wt_odd (0 + 1) rfl]
  unfold u2; omega
end Go.Proofs.Ythionipmohbnhaa
namespace Go.Proofs.Ythionipmohbnhaa
open Go.RowKit
theorem cellsA_head (v : Bool) (bs : List Nat) : (cellsA v bs)[0]? = some (.bool v) := by simp [cellsA]
theorem own_at {w : World} {base n : Nat} {e : TypeId} {v : Value} {xs : List Value} (h : w.ownsRow base e 1 v n xs) (h0 : 0 < n) : ∃ g cap, v = .slice (some ⟨g, 0, none⟩) n cap ∧ n ≤ cap ∧ cap ≤ maxLen ∧ base ≤ g ∧ g < w.heap.size := by
  rcases h.2 with ⟨-, h1⟩ | ⟨g, cap, cur, rfl, hg, h2, hnc, hcm, _⟩
  · omega
  · exact ⟨g, cap, rfl, hnc, hcm, hg, (Array.getElem?_eq_some_iff.1 h2).1⟩
theorem chA_lt (o : Nat) (F T : List Nat) (h : o < 65536) : chA o F T < 65536 := by
  unfold chA
  split
  · have := chg_le o F T (by omega) (F.length / 2); omega
  · exact h
theorem clone_any (p : Addr) (cap : Nat) (zs : List Nat) (w : World) (hr : Rd w (.slice (some p) zs.length cap) (nus .u8 zs)) (hz : zs.length ≤ 140737488355328) (h0 : 0 < zs.length) :
    Calls Try.prog 55 #[.slice (some p) zs.length cap] w fun e w' => ∃ x, e = .returned x ∧ w'.ownsRow w.heap.size 5 1 x zs.length (nus .u8 zs) ∧ Below w.heap.size w w' := by
  obtain ⟨b, off, e, hc⟩ := hr.cells h0
  cases e
  have h := Try.bytes_Clone_at ⟨b, off, none⟩ zs.length cap (zs.map fun n : Nat => (n : Int)) w (by simp) hz (fun i hi => by
    rw [Addr.add_lit, hc i hi]
    simp [List.getD_eq_getElem?_getD, List.getElem?_eq_getElem hi])
  refine h.mono ?_
  rintro e w' ⟨v, rfl, ho, -, hb⟩
  exact ⟨v, rfl, by simpa [nus, Function.comp_def] using ho, hb⟩
end Go.Proofs.Ythionipmohbnhaa
namespace Go.Proofs.Ythionipmohbnhaa
open Go.RowKit
theorem splice_nus (k : IntKind) (zs ts : List Nat) (off : Nat) : splice (nus k zs) off (nus k ts) = nus k (ov zs ts off) := by
  unfold splice ov
  rw [nus_length]
  simp [nus, List.map_take, List.map_drop]
theorem splice_take (cur cs : List Value) (off n : Nat) (h : off + cs.length ≤ n) (hn : n ≤ cur.length) : (splice cur off cs).take n = splice (cur.take n) off cs := by
  have hl : (cur.take off).length = off := by simp; omega
  unfold splice
  rw [List.take_append, List.take_append, List.take_take, List.take_take, Nat.min_comm n off, List.drop_take]
  rw [hl, List.take_of_length_le (l := cs) (by omega), show n - off - cs.length = n - (off + cs.length) from by omega]
theorem copy_into {P : Program} {w : World} {ops : Array Oper} {rest : List Oper} {o : Oper} {a : Act} {Q : Exit → Act → World → Prop} (hgd : o.guard = none) (d s : Operand) (dT sT : TypeId)
    (ho : o.op = .call { callee := .builtin .copy, args := #[d, s], argTypes := #[dT, sT] }) (elem : TypeId) (hu : P.underlying dT = some (.slice elem)) (hsz : (P.info? elem).map (·.size) = some 1)
    (g off n cap base dLen dCap : Nat) (e : TypeId) (k : IntKind) (zs ts : List Nat) (sp : Option Addr) (sLen sCap : Nat) (hd : a.eval d = .slice (some ⟨g, off, none⟩) dLen dCap) (hs : a.eval s = .slice sp sLen sCap)
    (hown : w.ownsRow base e 1 (.slice (some ⟨g, 0, none⟩) n cap) n (nus k zs)) (hr : Rd w (.slice sp sLen sCap) (nus k ts)) (hfit : off + sLen ≤ n) (hdl : sLen ≤ dLen)
    (h : ∀ w', Hid (w'.ownsRow base e 1 (.slice (some ⟨g, 0, none⟩) n cap) n (nus k (ov zs ts off))) → w.grownBy w' (some g) → wpList P ops Q rest (a.put o.dst (goInt sLen)) w') :
    wpList P ops Q (o :: rest) a w := by
  have hr0 := hr
  obtain ⟨a', c', ee, h1, h2, h3⟩ := hr0
  simp only [Value.slice.injEq, nus_length] at ee
  obtain ⟨rfl, rfl, rfl⟩ := ee
  obtain ⟨hxl, ⟨h0, -⟩ | ⟨g', cap', cur, hv, hb, hh, hnc, hcm, hcs, ht⟩⟩ := hown
  · cases h0
  simp only [Value.slice.injEq, Option.some.injEq, Addr.mk.injEq, and_true, true_and] at hv
  obtain ⟨rfl, rfl⟩ := hv
  simp only [Nat.mul_one] at hxl hcs ht
  have hcl : cur.toList.length = cap := by simpa using hcs
  refine copy_grown hgd d s dT sT ho elem hu hsz _ sp dLen dCap ts.length sCap hd hs g off cur.toList e (by simpa using hh) (nus k ts) (by rw [nus_length]; exact (Nat.min_eq_left hdl).symm) ?_ (by rw [nus_length, hcl]; omega) (oneCell_nus _ _) ?_
  · intro h0
    obtain ⟨ad, he, hc⟩ := hr.src h0
    exact ⟨rfl, ad, he, hc⟩
  · intro w' hg hgr
    have hgo : goInt (nus k ts).length = goInt ts.length := by rw [nus_length]
    rw [hgo]
    refine h w' ⟨?_, .inr ⟨g, cap, (splice cur.toList off (nus k ts)).toArray, rfl, hb, hg.out, hnc, hcm, ?_, ?_⟩⟩ hgr
    · rw [nus_length] at hxl ⊢
      rw [ov_length _ _ _ (by omega), hxl, Nat.mul_one]
    · rw [Nat.mul_one, List.size_toArray]
      unfold splice
      simp only [List.length_append, List.length_take, List.length_drop, nus_length, hcl]
      omega
    · rw [Nat.mul_one, splice_take _ _ _ _ (by rw [nus_length]; exact hfit) (by omega), ht, splice_nus]
end Go.Proofs.Ythionipmohbnhaa
namespace Go.Proofs.Ythionipmohbnhaa
open Go.RowKit
theorem wp_copy_into {P : Program} {w : World} {K : Act → World → Prop} {Q : Exit → Act → World → Prop} {o : Oper} {a : Act} (d s : Operand) (dT sT : TypeId)
    (ho : o.op = .call { callee := .builtin .copy, args := #[d, s], argTypes := #[dT, sT] }) (elem : TypeId) (hu : P.underlying dT = some (.slice elem)) (hsz : (P.info? elem).map (·.size) = some 1)
    (g off n cap base dLen dCap : Nat) (e : TypeId) (k : IntKind) (zs ts : List Nat) (sp : Option Addr) (sLen sCap : Nat) (hd : a.eval d = .slice (some ⟨g, off, none⟩) dLen dCap) (hs : a.eval s = .slice sp sLen sCap)
    (hown : w.ownsRow base e 1 (.slice (some ⟨g, 0, none⟩) n cap) n (nus k zs)) (hr : Rd w (.slice sp sLen sCap) (nus k ts)) (hfit : off + sLen ≤ n) (hdl : sLen ≤ dLen) (h0 : 0 < sLen)
    (h : ∀ w', Hid (w'.ownsRow base e 1 (.slice (some ⟨g, 0, none⟩) n cap) n (nus k (ov zs ts off))) → w.grownBy w' (some g) → K (a.put o.dst (goInt sLen)) w') :
    o.wp P a w K Q := by
  have hr0 := hr
  obtain ⟨a', c', ee, h1, h2, h3⟩ := hr0
  simp only [Value.slice.injEq, nus_length] at ee
  obtain ⟨rfl, rfl, rfl⟩ := ee
  obtain ⟨hxl, ⟨h0', -⟩ | ⟨g', cap', cur, hv, hb, hh, hnc, hcm, hcs, ht⟩⟩ := hown
  · cases h0'
  simp only [Value.slice.injEq, Option.some.injEq, Addr.mk.injEq, and_true, true_and] at hv
  obtain ⟨rfl, rfl⟩ := hv
  simp only [Nat.mul_one] at hxl hcs ht
  have hcl : cur.toList.length = cap := by simpa using hcs
  obtain ⟨ad, rfl, hc⟩ := hr.src (by rw [nus_length]; exact h0)
  have hrun := run_copy_row (P := P) w dT sT o.type elem g off dLen dCap ad ts.length sCap cur e (nus k ts) hu hsz hh (by rw [nus_length]; exact (Nat.min_eq_left hdl).symm) hc (by rw [nus_length, hcs]; omega) (oneCell_nus _ _)
  unfold Oper.wp
  simp [execOp, ho, resolve, invoke, builtin, hd, hs, hrun, Result.andThen]
  rw [nus_length]
  refine h _ ⟨?_, .inr ⟨g, cap, (splice cur.toList off (nus k ts)).toArray, rfl, hb, ?_, hnc, hcm, ?_, ?_⟩⟩ ⟨rfl, rfl, rfl, by simp [World.setRow], fun k _ hk => setRow_other w g k _ (fun e => hk (by rw [e]))⟩
  · rw [nus_length] at hxl ⊢
    rw [ov_length _ _ _ (by omega), hxl, Nat.mul_one]
  · simpa [splice, nus_length] using setRow_heap w g _ _ e _ hh
  · rw [Nat.mul_one, List.size_toArray]
    unfold splice
    simp only [List.length_append, List.length_take, List.length_drop, nus_length, hcl]
    omega
  · rw [Nat.mul_one, splice_take _ _ _ _ (by rw [nus_length]; exact hfit) (by omega), ht, splice_nus]
end Go.Proofs.Ythionipmohbnhaa
namespace Go.Proofs.Ythionipmohbnhaa
open Go.RowKit
set_option maxHeartbeats 400000 in
theorem put16_yes (g n cap base : Nat) (k v : Nat) (zs : List Nat) (w : World) (hown : w.ownsRow base 5 1 (.slice (some ⟨g, 0, none⟩) n cap) n (nus .u8 zs)) (hn : n ≤ maxLen) (hk : k + 2 ≤ n) (hv : v < 65536) :
    Calls Try.prog 58 #[.slice (some ⟨g, 0, none⟩) n cap, .int .i64 k, .int .u16 v] w fun e w' => e = .returned (.bool true) ∧ w'.ownsRow base 5 1 (.slice (some ⟨g, 0, none⟩) n cap) n (nus .u8 (putRow zs k 2 v 2)) ∧ w.grownBy w' (some g) := by
  have hzl : zs.length = n := by have := hown.1; simpa [nus_length] using this
  unfold maxLen at hn
  have hfit : decide ((k : Int) ≤ (n : Int) - 2) = true := by simp; omega
  have HO := Lib.hid hown
  have HZ := Lib.hid hzl
  clear hown hzl
  go_enter Try.func58, Try.ntmps58
  go_wp2_with (first
    | (go_at_call 66; refine (fits16_pos _ _ _ _ _ (by unfold maxLen; omega) (by omega)).mono ?_; rintro e w' ⟨rfl, rfl⟩; rw [hfit])
    | (go_at_call 67; refine (size16_any _).mono ?_; rintro e w' ⟨rfl, rfl⟩))
  go_loopw [7, 8] (fun r i wr => ∃ j : Nat, j ≤ 2 ∧ r = .int .u64 ((v / 256 ^ j : Nat) : Int) ∧ i = .int .i64 ((k : Int) + 2 - 1 - j) ∧ wr.ownsRow base 5 1 (.slice (some ⟨g, 0, none⟩) n cap) n (nus .u8 (putRow zs k 2 v j)) ∧ w.grownBy wr (some g)) (fun _ i _ => (intOf i + 1 - k).toNat)
  case atStart => exact ⟨0, by omega, by simp, by simp, by rw [putRow_zero]; exact HO.out, World.grownBy.refl _ _⟩
  case round =>
    obtain ⟨j, hj, rfl, rfl, hown, hgr⟩ := hrel
    by_cases h1 : j < 2
    · obtain ⟨r, hr⟩ : ∃ r, r = v / 256 ^ j := ⟨_, rfl⟩
      obtain ⟨p, hp⟩ : ∃ p : Nat, (k : Int) + 2 - 1 - j = p := ⟨k + 2 - 1 - j, by omega⟩
      have hpk : k ≤ p ∧ p < k + 2 := by omega
      have hrv : r < 18446744073709551616 := by have := Nat.div_le_self v (256 ^ j); omega
      have hcell := hown.cellAt p (by omega)
      rw [nus_get _ _ _ (by rw [putRow_length _ _ _ _ _ (by rw [HZ.out]; exact hk) hj, HZ.out]; omega)] at hcell
      have hfz := hown.frozenAt p
      have hst := hown.stored p (.int .u8 ((r % 256 : Nat) : Int))
      have hstep := putRow_step zs k 2 v j (by rw [HZ.out]; exact hk) h1
      rw [← hr, show k + 2 - 1 - j = p from by omega] at hstep
      rw [nus_set, hstep] at hst
      have hr2 : r / 256 = v / 256 ^ (j + 1) := by rw [hr, Nat.div_div_eq_div_mul, Nat.pow_succ]
      rw [← hr, hp]
      obtain ⟨x, hx⟩ : ∃ x, x = (putRow zs k 2 v j).getD p 0 := ⟨_, rfl⟩
      rw [← hx] at hcell
      have HS := Lib.hid hst
      have HP := Lib.hid hp
      have HR := Lib.hid hr2
      clear hown hst hstep hp hr hr2 hx
      go_wp2
      go_roundw
      case rel => exact ⟨j + 1, by omega, by rw [← HR.out]; go_num, by have := HP.out; go_num, HS.out.1, grownBy_trans hgr HS.out.2⟩
      case measure => have := HP.out; simp [intOf]; omega
    · obtain rfl : j = 2 := by omega
      go_wp2
      go_ret
      exact ⟨rfl, hown, hgr⟩
end Go.Proofs.Ythionipmohbnhaa
