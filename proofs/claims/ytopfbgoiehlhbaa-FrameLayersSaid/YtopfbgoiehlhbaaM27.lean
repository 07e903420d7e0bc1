/- Texts that the walks of this seat lean on, put together: each has its own remark below. -/
import Derived.Test.YtopfbgoiehlhbaaM01
import Derived.Test.YtopfbgoiehlhbaaM22

/- The walk of FrameLayers. -/
namespace Go.Proofs.Ytopfbgoiehlhbaa
open Go.RowKit

theorem fill_two (s s2 : ByteArray) (n n2 : Int) : Instr.fill (fun i => some (i * 2, 2)) ((Array.range (2 * 2)).map ((Value.agg #[.string { data := #[] }, .int .i64 0]).cells[· % (Value.agg #[.string { data := #[] }, .int .i64 0]).cells.size]!)) [(0, .agg #[.string s, .int .i64 n]), (1, .agg #[.string s2, .int .i64 n2])] = some #[.string s, .int .i64 n, .string s2, .int .i64 n2] := by
  kernel_rfl
/-- A literal of two records. -/
theorem wpList_two_rec {P : Program} {ops : Array Oper} {rest : List Oper} {o : Oper} {a : Act} {w : World} {Q : Exit → Act → World → Prop} (hw : Region.wanted o (yielded ops a.tmps) = true) (t e : TypeId) (x y : Operand) (ho : o.op = .buildSlice t 2 #[(0, x), (1, y)]) (s s2 : ByteArray) (n n2 : Int)
    (hx : a.eval x = .agg #[.string s, .int .i64 n]) (hy : a.eval y = .agg #[.string s2, .int .i64 n2]) (hu : P.underlying t = some (.slice e)) (hi : Rec2 P e)
    (h : ∀ w', w'.heap[w.heap.size]? = some (.cells #[.string s, .int .i64 n, .string s2, .int .i64 n2] e (0, 0)) → Below w.heap.size w w' → w'.heap.size = w.heap.size + 1 → wpList P ops Q rest (a.put o.dst (.slice (some ⟨w.heap.size, 0, none⟩) 2 2)) w') : wpList P ops Q (o :: rest) a w := by
  obtain ⟨i, hi, hz, hs, -⟩ := info_parts hi
  refine BigFrame.wpList_want hw fun _ hK => wp_buildSlice t e 2 #[(0, x), (1, y)] ho #[.string s, .int .i64 n, .string s2, .int .i64 n2] i _ hu hi hz (by rw [hs]; omega) (by rw [hs]; omega) ?_ (hK _ _ (h _ (World.alloc_heap_new w _) ((Below.refl _ w).alloc (Nat.le_refl _) _) (World.size_alloc w _)))
  rw [hs]
  rw [show ((#[(0, x), (1, y)] : Array (Nat × Operand)).map fun (i, x) => (i, a.eval x)).toList = [(0, a.eval x), (1, a.eval y)] by simp, hx, hy]
  exact fill_two s s2 n n2
/-- The append of two. -/
theorem wpList_app_two {P : Program} {ops : Array Oper} {rest : List Oper} {o : Oper} {a : Act} {w : World} {Q : Exit → Act → World → Prop} (hw : Region.wanted o (yielded ops a.tmps) = true) (s x : Operand) (t e : TypeId)
    (ho : o.op = .call { callee := .builtin .append, args := #[s, x], argTypes := #[t, t] }) (hu : P.underlying t = some (.slice e)) (hi : Rec2 P e)
    (base : Nat) (v : Value) (n : Nat) (xs : List Value) (hs : a.eval s = v) (hown : w.ownsRow base e 2 v n xs) (g : Nat) (c c2 : ByteArray) (m m2 : Int) (hx : a.eval x = .slice (some ⟨g, 0, none⟩) 2 2)
    (hg : w.heap[g]? = some (.cells #[.string c, .int .i64 m, .string c2, .int .i64 m2] e (0, 0))) (hn : n ≤ 1000) (hbase : base ≤ w.heap.size)
    (h : ∀ v' w', w'.ownsRow base e 2 v' (n + 2) (xs ++ [.string c, .int .i64 m, .string c2, .int .i64 m2]) → w.grownBy w' v.ownBlock → wpList P ops Q rest (a.put o.dst v') w') : wpList P ops Q (o :: rest) a w := by
  obtain ⟨i, hi, hz, hs2, hby⟩ := info_parts hi
  refine BigFrame.wpList_want hw fun _ hK => wp_append_own w s x t ho base e i _ 2 24 hu hi hz hs2 hby rfl (by decide) v n xs hs hown ⟨g, 0, none⟩ 2 2 [.string c, .int .i64 m, .string c2, .int .i64 m2] hx rfl ?_ ?_ (by unfold maxLen; omega) (by omega) hbase (fun v' w' h1 h2 _ => hK _ _ (h v' w' h1 h2))
  · intro j u hj
    rw [Addr.add_lit]
    match j, hj with
    | 0, hj => cases hj; simp [World.cell?, hg]
    | 1, hj => cases hj; simp [World.cell?, hg]
    | 2, hj => cases hj; simp [World.cell?, hg]
    | 3, hj => cases hj; simp [World.cell?, hg]
  · intro u hu
    simp at hu
    rcases hu with rfl | rfl | rfl | rfl <;> rfl

set_option maxRecDepth 100000 in
set_option maxHeartbeats 4000000 in
theorem lay_fff (n : Int) (cut : Int) (w : World) :
    Calls Try.prog 6 #[.int .i64 n, .bool false, .bool false, .bool false, .int .i64 cut] w fun e w' => e = .returned (.bool true) ∧ Below w.heap.size w w' := by
  obtain ⟨u, hu⟩ : ∃ u, u = (n % 1073741824).toNat := ⟨_, rfl⟩
  have CK := Lib.hid (fun W => flow_any n false false W)
  rw [← hu] at CK
  have CB := Lib.hid (show ∀ W z, Rd W (.slice (some z) 3 3) (nus .u8 [97, 98, 99]) → _ from fun W z (h : Rd W (.slice (some z) 3 3) (nus .u8 [97, 98, 99])) => fB8_any u false false 0 0 (some z) 3 3 [97, 98, 99] false false W h rfl (by intro e; cases e) (by decide) (by omega) (by omega) (by omega))
  have T := fB8_told u false false 0 [97, 98, 99] false false (List.replicate 0 0) (by decide)
  have hlt := fB8_lt u false false 0 [97, 98, 99] false false 0 (by omega) (by decide)
  have hC := fun k hk => (cut8 false (sV u) dV (pr false) (1000 + u % 50000) 80 0 [97, 98, 99] false false (List.replicate 0 0) (pr_or false) (sV_len u) dV_len (by decide) k hk).2
  rw [show frR false (sV u) dV (pr false) (1000 + u % 50000) 80 0 [97, 98, 99] false false (List.replicate 0 0) = fB8 u false false 0 [97, 98, 99] false false (List.replicate 0 0) from rfl] at hC
  generalize fB8 u false false 0 [97, 98, 99] false false (List.replicate 0 0) = F at *
  have hlen : F.length = 57 := T.len
  have hly : lys F = [(0, 0), (2, 14), (4, 34)] := T.ly
  obtain ⟨kk, hk, hk2⟩ : ∃ k : Nat, cut % 58 = (k : Int) ∧ k ≤ 57 := ⟨(cut % 58).toNat, by omega, by omega⟩
  have hA : kk < 14 → lys (F.take kk) = [] := fun h => (hC kk (show kk < 14 + 20 + (20 + 3) by omega)).trans (if_pos h)
  have hB : 14 ≤ kk → kk < 57 → lys (F.take kk) = [(0, 0)] := fun h h2 => (hC kk (show kk < 14 + 20 + (20 + 3) by omega)).trans (if_neg (show ¬ kk < 14 by omega))
  have hD : kk = 57 → lys (F.take kk) = [(0, 0), (2, 14), (4, 34)] := fun h => by rw [List.take_of_length_le (by omega)]; exact hly
  have CN := Lib.hid (fun W z (h : Rd W z (nus .u8 (F.take kk))) => names_any z (F.take kk) (-1) W h (fun c hc => hlt c (List.mem_of_mem_take hc)))
  rw [show cutL (lys (F.take kk)) (-1) = lys (F.take kk) from by unfold cutL; rw [if_neg (by omega)]] at CN
  rw [hlen] at CB
  have HFL := Lib.hid hlen
  have HKK := Lib.hid hk
  have HA := Lib.hid hA
  have HB := Lib.hid hB
  have HD := Lib.hid hD
  generalize flow u false false = kc at *
  clear T hlt hC hlen hly hA hB hD hu hk
  have kcv := fun (w : World) (C : Array Value) (n c : Nat) => Lib.run_convert_bytes_const (P := Try.prog) w 22 5 C n c Try.underlying22 Try.underlying5
  have K := Lib.hid (Below.refl w.heap.size w)
  go_enter Try.func6, Try.ntmps6
  go_wp2_with fail
  refine (CK.out _).mono ?_
  rintro e V1 ⟨rfl, hy⟩
  replace K := Lib.hid (K.out.trans (hy.mono K.out.size))
  clear hy
  have hal := (Below.refl V1.heap.size V1).alloc (Nat.le_refl _) (.cells #[Value.int .u8 97, .int .u8 98, .int .u8 99] 5 (3, 3 + 1))
  have RL0 := Lib.hid (show Rd (V1.alloc (.cells #[Value.int .u8 97, .int .u8 98, .int .u8 99] 5 (3, 3 + 1))) (.slice (some ⟨V1.heap.size, 0, none⟩) 3 3) (nus .u8 [97, 98, 99]) from rd_lit V1 .u8 5 [97, 98, 99] 3 (3, 4) rfl (by simp [maxLen]))
  go_wp2_with fail
  replace K := Lib.hid (K.out.trans (hal.mono K.out.size))
  clear hal kcv
  refine (CB.out _ _ RL0.out).mono ?_
  rintro e V2 ⟨gb, cb, rfl, ho, hy⟩
  replace K := Lib.hid (K.out.trans (hy.mono K.out.size))
  have RC := Lib.hid ((Rd.own ho).front kk (by rw [HFL.out]; exact hk2))
  have KB := Lib.hid (Below.refl V2.heap.size V2)
  have qB : w.heap.size ≤ V2.heap.size := K.out.size
  have hcc : (kk : Int) ≤ (cb : Int) := by
    obtain ⟨_, _, e1, h1, -⟩ := Rd.own ho
    simp only [Value.slice.injEq] at e1
    obtain ⟨-, -, rfl⟩ := e1
    rw [nus_length, HFL.out] at h1
    omega
  clear ho hy RL0 CB CK
  go_wp2_with fail
  refine (round_any cut 58 _ (by omega) (by omega)).mono ?_
  rintro e V3 ⟨rfl, rfl⟩
  rw [HKK.out]
  have qV := KB.out.size
  go_wp2_with (((with_reducible refine wpList_one_rec (o := ⟨some 32, .buildSlice 34 1 #[(0, Operand.tmp 31)], _, _, _, _⟩) ?lg1 34 46 (.tmp 31) ?lo1 { data := #[101, 116, 104, 101, 114] } 0 ?lx1 Try.underlying34 rec46 ?_); (case lg1 => rfl); (case lo1 => rfl); (case lx1 => rfl)))
  intro V4 hg1 hy hz1
  replace K := Lib.hid (K.out.trans (hy.mono K.out.size))
  replace KB := Lib.hid (KB.out.trans (hy.mono KB.out.size))
  clear hy hz1
  have HG1 := Lib.hid hg1
  clear hg1
  have LR := Lib.hid (own_rec (base := V2.heap.size) HG1.out qV)
  by_cases h1 : kk < 14
  case pos =>
    have hdk : decide ((kk : Int) < 14) = true := decide_eq_true (by omega)
    have hL := HA.out h1
    rw [hL] at CN
    clear h1 hL HA HB HD
    go_wp2_with fail
    refine (CN.out _ _ (RC.out.below KB.out)).mono ?_
    rintro e V5 ⟨x9, rfl, hx, hy⟩
    replace K := Lib.hid (K.out.trans (hy.mono K.out.size))
    replace KB := Lib.hid (KB.out.trans (hy.mono KB.out.size))
    replace LR := Lib.hid (row_under2 LR.out hy)
    obtain ⟨a9, c9, rfl⟩ := row_shape hx
    clear hx
    clear hy
    go_wp2_with fail
    refine (awake_any _).mono ?_
    rintro e V6 ⟨rfl, hy⟩
    replace K := Lib.hid (K.out.trans (hy.mono K.out.size))
    replace KB := Lib.hid (KB.out.trans (hy.mono KB.out.size))
    replace LR := Lib.hid (row_under2 LR.out hy)
    clear hy
    go_wp2
    go_ret
    exact ⟨rfl, K.out⟩
  case neg =>
    have hdk : decide ((kk : Int) < 14) = false := decide_eq_false (by omega)
    by_cases h2 : kk = 57
    case neg =>
      have hL := HB.out (by omega) (by omega)
      rw [hL] at CN
      have hke : ((kk : Int) == 57) = false := by rw [beq_eq_false_iff_ne]; omega
      clear h1 h2 hL HA HB HD
      go_wp2_with fail
      refine (CN.out _ _ (RC.out.below KB.out)).mono ?_
      rintro e V5 ⟨x9, rfl, hx, hy⟩
      replace K := Lib.hid (K.out.trans (hy.mono K.out.size))
      replace KB := Lib.hid (KB.out.trans (hy.mono KB.out.size))
      replace LR := Lib.hid (row_under2 LR.out hy)
      have X9 := Lib.hid (RL.own hx)
      clear hx
      clear hy
      go_wp2_with fail
      refine (same_any x9 _ [(0, 0)] _ X9.out (RL.own (show _ from LR.out)) (by decide) (by simp)).mono ?_
      rintro e V6 ⟨rfl, hy⟩
      replace K := Lib.hid (K.out.trans (hy.mono K.out.size))
      replace KB := Lib.hid (KB.out.trans (hy.mono KB.out.size))
      replace LR := Lib.hid (row_under2 LR.out hy)
      clear hy
      go_wp2_with fail
      refine (awake_any _).mono ?_
      rintro e V7 ⟨rfl, hy⟩
      replace K := Lib.hid (K.out.trans (hy.mono K.out.size))
      replace KB := Lib.hid (KB.out.trans (hy.mono KB.out.size))
      replace LR := Lib.hid (row_under2 LR.out hy)
      clear hy
      go_wp2
      go_ret
      exact ⟨rfl, K.out⟩
    case pos =>
      have hL := HD.out h2
      rw [hL] at CN
      have hke : ((kk : Int) == 57) = true := by rw [beq_iff_eq]; omega
      clear h1 h2 hL HA HB HD
      go_wp2_with (((with_reducible refine wpList_two_rec (o := ⟨some 65, .buildSlice 34 2 #[(0, Operand.tmp 59), (1, Operand.tmp 64)], _, _, _, _⟩) ?lg2 34 46 (.tmp 59) (.tmp 64) ?lo2 { data := #[105, 112, 118, 52] } { data := #[116, 99, 112] } 14 34 ?lx2 ?ly2 Try.underlying34 rec46 ?_); (case lg2 => rfl); (case lo2 => rfl); (case lx2 => rfl); (case ly2 => rfl)))
      intro V5 hg2x hy hz2x
      replace K := Lib.hid (K.out.trans (hy.mono K.out.size))
      replace KB := Lib.hid (KB.out.trans (hy.mono KB.out.size))
      replace LR := Lib.hid (row_under2 LR.out hy)
      clear hy hz2x
      have HG2 := Lib.hid hg2x
      clear hg2x
      go_wp2_with (((with_reducible refine wpList_app_two (o := ⟨some 66, .call { callee := .builtin .append, args := #[Operand.tmp 56, Operand.tmp 65], argTypes := #[34, 34] }, _, _, _, _⟩) ?mg2 (.tmp 56) (.tmp 65) 34 46 ?mo2 Try.underlying34 rec46 V2.heap.size (.slice (some ⟨V2.heap.size, 0, none⟩) 1 1) 1 [.string { data := #[101, 116, 104, 101, 114] }, .int .i64 0] ?ms2 LR.out (V4.heap.size) { data := #[105, 112, 118, 52] } { data := #[116, 99, 112] } 14 34 ?mx2 HG2.out ?mn2 KB.out.size ?_); (case mg2 => rfl); (case mo2 => rfl); (case ms2 => rfl); (case mx2 => rfl); (case mn2 => omega)))
      intro x8 V6 oz gz
      replace K := Lib.hid (below_grown K.out LR.out qB K.out.size gz)
      replace KB := Lib.hid (below_grown KB.out LR.out (Nat.le_refl _) KB.out.size gz)
      replace LR := Lib.hid oz
      clear oz gz
      go_wp2_with fail
      refine (CN.out _ _ (RC.out.below KB.out)).mono ?_
      rintro e V7 ⟨x9, rfl, hx, hy⟩
      replace K := Lib.hid (K.out.trans (hy.mono K.out.size))
      replace KB := Lib.hid (KB.out.trans (hy.mono KB.out.size))
      replace LR := Lib.hid (row_under2 LR.out hy)
      have X9 := Lib.hid (RL.own hx)
      clear hx
      clear hy
      go_wp2_with fail
      refine (same_any x9 _ [(0, 0), (2, 14), (4, 34)] _ X9.out (RL.own (show _ from LR.out)) (by decide) (by simp)).mono ?_
      rintro e V8 ⟨rfl, hy⟩
      replace K := Lib.hid (K.out.trans (hy.mono K.out.size))
      replace KB := Lib.hid (KB.out.trans (hy.mono KB.out.size))
      replace LR := Lib.hid (row_under2 LR.out hy)
      clear hy
      go_wp2_with fail
      refine (awake_any _).mono ?_
      rintro e V9 ⟨rfl, hy⟩
      replace K := Lib.hid (K.out.trans (hy.mono K.out.size))
      replace KB := Lib.hid (KB.out.trans (hy.mono KB.out.size))
      replace LR := Lib.hid (row_under2 LR.out hy)
      clear hy
      go_wp2
      go_ret
      exact ⟨rfl, K.out⟩

set_option maxRecDepth 100000 in
set_option maxHeartbeats 4000000 in
theorem lay_fft (n : Int) (cut : Int) (w : World) :
    Calls Try.prog 6 #[.int .i64 n, .bool false, .bool true, .bool false, .int .i64 cut] w fun e w' => e = .returned (.bool true) ∧ Below w.heap.size w w' := by
  obtain ⟨u, hu⟩ : ∃ u, u = (n % 1073741824).toNat := ⟨_, rfl⟩
  have CK := Lib.hid (fun W => flow_any n false true W)
  rw [← hu] at CK
  have CB := Lib.hid (show ∀ W z, Rd W (.slice (some z) 3 3) (nus .u8 [97, 98, 99]) → _ from fun W z (h : Rd W (.slice (some z) 3 3) (nus .u8 [97, 98, 99])) => fB8_any u false true 0 0 (some z) 3 3 [97, 98, 99] false false W h rfl (by intro e; cases e) (by decide) (by omega) (by omega) (by omega))
  have T := fB8_told u false true 0 [97, 98, 99] false false (List.replicate 0 0) (by decide)
  have hlt := fB8_lt u false true 0 [97, 98, 99] false false 0 (by omega) (by decide)
  have hC := fun k hk => (cut8 false (sV u) dV (pr true) (1000 + u % 50000) 80 0 [97, 98, 99] false false (List.replicate 0 0) (pr_or true) (sV_len u) dV_len (by decide) k hk).2
  rw [show frR false (sV u) dV (pr true) (1000 + u % 50000) 80 0 [97, 98, 99] false false (List.replicate 0 0) = fB8 u false true 0 [97, 98, 99] false false (List.replicate 0 0) from rfl] at hC
  generalize fB8 u false true 0 [97, 98, 99] false false (List.replicate 0 0) = F at *
  have hlen : F.length = 45 := T.len
  have hly : lys F = [(0, 0), (2, 14), (5, 34)] := T.ly
  obtain ⟨kk, hk, hk2⟩ : ∃ k : Nat, cut % 46 = (k : Int) ∧ k ≤ 45 := ⟨(cut % 46).toNat, by omega, by omega⟩
  have hA : kk < 14 → lys (F.take kk) = [] := fun h => (hC kk (show kk < 14 + 20 + (8 + 3) by omega)).trans (if_pos h)
  have hB : 14 ≤ kk → kk < 45 → lys (F.take kk) = [(0, 0)] := fun h h2 => (hC kk (show kk < 14 + 20 + (8 + 3) by omega)).trans (if_neg (show ¬ kk < 14 by omega))
  have hD : kk = 45 → lys (F.take kk) = [(0, 0), (2, 14), (5, 34)] := fun h => by rw [List.take_of_length_le (by omega)]; exact hly
  have CN := Lib.hid (fun W z (h : Rd W z (nus .u8 (F.take kk))) => names_any z (F.take kk) (-1) W h (fun c hc => hlt c (List.mem_of_mem_take hc)))
  rw [show cutL (lys (F.take kk)) (-1) = lys (F.take kk) from by unfold cutL; rw [if_neg (by omega)]] at CN
  rw [hlen] at CB
  have HFL := Lib.hid hlen
  have HKK := Lib.hid hk
  have HA := Lib.hid hA
  have HB := Lib.hid hB
  have HD := Lib.hid hD
  generalize flow u false true = kc at *
  clear T hlt hC hlen hly hA hB hD hu hk
  have kcv := fun (w : World) (C : Array Value) (n c : Nat) => Lib.run_convert_bytes_const (P := Try.prog) w 22 5 C n c Try.underlying22 Try.underlying5
  have K := Lib.hid (Below.refl w.heap.size w)
  go_enter Try.func6, Try.ntmps6
  go_wp2_with fail
  refine (CK.out _).mono ?_
  rintro e V1 ⟨rfl, hy⟩
  replace K := Lib.hid (K.out.trans (hy.mono K.out.size))
  clear hy
  have hal := (Below.refl V1.heap.size V1).alloc (Nat.le_refl _) (.cells #[Value.int .u8 97, .int .u8 98, .int .u8 99] 5 (3, 3 + 1))
  have RL0 := Lib.hid (show Rd (V1.alloc (.cells #[Value.int .u8 97, .int .u8 98, .int .u8 99] 5 (3, 3 + 1))) (.slice (some ⟨V1.heap.size, 0, none⟩) 3 3) (nus .u8 [97, 98, 99]) from rd_lit V1 .u8 5 [97, 98, 99] 3 (3, 4) rfl (by simp [maxLen]))
  go_wp2_with fail
  replace K := Lib.hid (K.out.trans (hal.mono K.out.size))
  clear hal kcv
  refine (CB.out _ _ RL0.out).mono ?_
  rintro e V2 ⟨gb, cb, rfl, ho, hy⟩
  replace K := Lib.hid (K.out.trans (hy.mono K.out.size))
  have RC := Lib.hid ((Rd.own ho).front kk (by rw [HFL.out]; exact hk2))
  have KB := Lib.hid (Below.refl V2.heap.size V2)
  have qB : w.heap.size ≤ V2.heap.size := K.out.size
  have hcc : (kk : Int) ≤ (cb : Int) := by
    obtain ⟨_, _, e1, h1, -⟩ := Rd.own ho
    simp only [Value.slice.injEq] at e1
    obtain ⟨-, -, rfl⟩ := e1
    rw [nus_length, HFL.out] at h1
    omega
  clear ho hy RL0 CB CK
  go_wp2_with fail
  refine (round_any cut 46 _ (by omega) (by omega)).mono ?_
  rintro e V3 ⟨rfl, rfl⟩
  rw [HKK.out]
  have qV := KB.out.size
  go_wp2_with (((with_reducible refine wpList_one_rec (o := ⟨some 32, .buildSlice 34 1 #[(0, Operand.tmp 31)], _, _, _, _⟩) ?lg2 34 46 (.tmp 31) ?lo2 { data := #[101, 116, 104, 101, 114] } 0 ?lx2 Try.underlying34 rec46 ?_); (case lg2 => rfl); (case lo2 => rfl); (case lx2 => rfl)))
  intro V4 hg2 hy hz2
  replace K := Lib.hid (K.out.trans (hy.mono K.out.size))
  replace KB := Lib.hid (KB.out.trans (hy.mono KB.out.size))
  clear hy hz2
  have HG2 := Lib.hid hg2
  clear hg2
  have LR := Lib.hid (own_rec (base := V2.heap.size) HG2.out qV)
  by_cases h1 : kk < 14
  case pos =>
    have hdk : decide ((kk : Int) < 14) = true := decide_eq_true (by omega)
    have hL := HA.out h1
    rw [hL] at CN
    clear h1 hL HA HB HD
    go_wp2_with fail
    refine (CN.out _ _ (RC.out.below KB.out)).mono ?_
    rintro e V5 ⟨x9, rfl, hx, hy⟩
    replace K := Lib.hid (K.out.trans (hy.mono K.out.size))
    replace KB := Lib.hid (KB.out.trans (hy.mono KB.out.size))
    replace LR := Lib.hid (row_under2 LR.out hy)
    obtain ⟨a9, c9, rfl⟩ := row_shape hx
    clear hx
    clear hy
    go_wp2_with fail
    refine (awake_any _).mono ?_
    rintro e V6 ⟨rfl, hy⟩
    replace K := Lib.hid (K.out.trans (hy.mono K.out.size))
    replace KB := Lib.hid (KB.out.trans (hy.mono KB.out.size))
    replace LR := Lib.hid (row_under2 LR.out hy)
    clear hy
    go_wp2
    go_ret
    exact ⟨rfl, K.out⟩
  case neg =>
    have hdk : decide ((kk : Int) < 14) = false := decide_eq_false (by omega)
    by_cases h2 : kk = 45
    case neg =>
      have hL := HB.out (by omega) (by omega)
      rw [hL] at CN
      have hke : ((kk : Int) == 45) = false := by rw [beq_eq_false_iff_ne]; omega
      clear h1 h2 hL HA HB HD
      go_wp2_with fail
      refine (CN.out _ _ (RC.out.below KB.out)).mono ?_
      rintro e V5 ⟨x9, rfl, hx, hy⟩
      replace K := Lib.hid (K.out.trans (hy.mono K.out.size))
      replace KB := Lib.hid (KB.out.trans (hy.mono KB.out.size))
      replace LR := Lib.hid (row_under2 LR.out hy)
      have X9 := Lib.hid (RL.own hx)
      clear hx
      clear hy
      go_wp2_with fail
      refine (same_any x9 _ [(0, 0)] _ X9.out (RL.own (show _ from LR.out)) (by decide) (by simp)).mono ?_
      rintro e V6 ⟨rfl, hy⟩
      replace K := Lib.hid (K.out.trans (hy.mono K.out.size))
      replace KB := Lib.hid (KB.out.trans (hy.mono KB.out.size))
      replace LR := Lib.hid (row_under2 LR.out hy)
      clear hy
      go_wp2_with fail
      refine (awake_any _).mono ?_
      rintro e V7 ⟨rfl, hy⟩
      replace K := Lib.hid (K.out.trans (hy.mono K.out.size))
      replace KB := Lib.hid (KB.out.trans (hy.mono KB.out.size))
      replace LR := Lib.hid (row_under2 LR.out hy)
      clear hy
      go_wp2
      go_ret
      exact ⟨rfl, K.out⟩
    case pos =>
      have hL := HD.out h2
      rw [hL] at CN
      have hke : ((kk : Int) == 45) = true := by rw [beq_iff_eq]; omega
      clear h1 h2 hL HA HB HD
      go_wp2_with (((with_reducible refine wpList_two_rec (o := ⟨some 65, .buildSlice 34 2 #[(0, Operand.tmp 59), (1, Operand.tmp 64)], _, _, _, _⟩) ?lg2 34 46 (.tmp 59) (.tmp 64) ?lo2 { data := #[105, 112, 118, 52] } { data := #[117, 100, 112] } 14 34 ?lx2 ?ly2 Try.underlying34 rec46 ?_); (case lg2 => rfl); (case lo2 => rfl); (case lx2 => rfl); (case ly2 => rfl)))
      intro V5 hg2x hy hz2x
      replace K := Lib.hid (K.out.trans (hy.mono K.out.size))
      replace KB := Lib.hid (KB.out.trans (hy.mono KB.out.size))
      replace LR := Lib.hid (row_under2 LR.out hy)
      clear hy hz2x
      have HG2 := Lib.hid hg2x
      clear hg2x
      go_wp2_with (((with_reducible refine wpList_app_two (o := ⟨some 66, .call { callee := .builtin .append, args := #[Operand.tmp 56, Operand.tmp 65], argTypes := #[34, 34] }, _, _, _, _⟩) ?mg2 (.tmp 56) (.tmp 65) 34 46 ?mo2 Try.underlying34 rec46 V2.heap.size (.slice (some ⟨V2.heap.size, 0, none⟩) 1 1) 1 [.string { data := #[101, 116, 104, 101, 114] }, .int .i64 0] ?ms2 LR.out (V4.heap.size) { data := #[105, 112, 118, 52] } { data := #[117, 100, 112] } 14 34 ?mx2 HG2.out ?mn2 KB.out.size ?_); (case mg2 => rfl); (case mo2 => rfl); (case ms2 => rfl); (case mx2 => rfl); (case mn2 => omega)))
      intro x8 V6 oz gz
      replace K := Lib.hid (below_grown K.out LR.out qB K.out.size gz)
      replace KB := Lib.hid (below_grown KB.out LR.out (Nat.le_refl _) KB.out.size gz)
      replace LR := Lib.hid oz
      clear oz gz
      go_wp2_with fail
      refine (CN.out _ _ (RC.out.below KB.out)).mono ?_
      rintro e V7 ⟨x9, rfl, hx, hy⟩
      replace K := Lib.hid (K.out.trans (hy.mono K.out.size))
      replace KB := Lib.hid (KB.out.trans (hy.mono KB.out.size))
      replace LR := Lib.hid (row_under2 LR.out hy)
      have X9 := Lib.hid (RL.own hx)
      clear hx
      clear hy
      go_wp2_with fail
      refine (same_any x9 _ [(0, 0), (2, 14), (5, 34)] _ X9.out (RL.own (show _ from LR.out)) (by decide) (by simp)).mono ?_
      rintro e V8 ⟨rfl, hy⟩
      replace K := Lib.hid (K.out.trans (hy.mono K.out.size))
      replace KB := Lib.hid (KB.out.trans (hy.mono KB.out.size))
      replace LR := Lib.hid (row_under2 LR.out hy)
      clear hy
      go_wp2_with fail
      refine (awake_any _).mono ?_
      rintro e V9 ⟨rfl, hy⟩
      replace K := Lib.hid (K.out.trans (hy.mono K.out.size))
      replace KB := Lib.hid (KB.out.trans (hy.mono KB.out.size))
      replace LR := Lib.hid (row_under2 LR.out hy)
      clear hy
      go_wp2
      go_ret
      exact ⟨rfl, K.out⟩

set_option maxRecDepth 100000 in
set_option maxHeartbeats 4000000 in
theorem lay_ftf (n : Int) (cut : Int) (w : World) :
    Calls Try.prog 6 #[.int .i64 n, .bool true, .bool false, .bool false, .int .i64 cut] w fun e w' => e = .returned (.bool true) ∧ Below w.heap.size w w' := by
  obtain ⟨u, hu⟩ : ∃ u, u = (n % 1073741824).toNat := ⟨_, rfl⟩
  have CK := Lib.hid (fun W => flow_any n true false W)
  rw [← hu] at CK
  have CB := Lib.hid (show ∀ W z, Rd W (.slice (some z) 3 3) (nus .u8 [97, 98, 99]) → _ from fun W z (h : Rd W (.slice (some z) 3 3) (nus .u8 [97, 98, 99])) => fB8_any u true false 0 0 (some z) 3 3 [97, 98, 99] false false W h rfl (by intro e; cases e) (by decide) (by omega) (by omega) (by omega))
  have T := fB8_told u true false 0 [97, 98, 99] false false (List.replicate 0 0) (by decide)
  have hlt := fB8_lt u true false 0 [97, 98, 99] false false 0 (by omega) (by decide)
  have hC := fun k hk => (cut8 true (sV u) dV (pr false) (1000 + u % 50000) 80 0 [97, 98, 99] false false (List.replicate 0 0) (pr_or false) (sV_len u) dV_len (by decide) k hk).2
  rw [show frR true (sV u) dV (pr false) (1000 + u % 50000) 80 0 [97, 98, 99] false false (List.replicate 0 0) = fB8 u true false 0 [97, 98, 99] false false (List.replicate 0 0) from rfl] at hC
  generalize fB8 u true false 0 [97, 98, 99] false false (List.replicate 0 0) = F at *
  have hlen : F.length = 77 := T.len
  have hly : lys F = [(0, 0), (3, 14), (4, 54)] := T.ly
  obtain ⟨kk, hk, hk2⟩ : ∃ k : Nat, cut % 78 = (k : Int) ∧ k ≤ 77 := ⟨(cut % 78).toNat, by omega, by omega⟩
  have hA : kk < 14 → lys (F.take kk) = [] := fun h => (hC kk (show kk < 14 + 40 + (20 + 3) by omega)).trans (if_pos h)
  have hB : 14 ≤ kk → kk < 77 → lys (F.take kk) = [(0, 0)] := fun h h2 => (hC kk (show kk < 14 + 40 + (20 + 3) by omega)).trans (if_neg (show ¬ kk < 14 by omega))
  have hD : kk = 77 → lys (F.take kk) = [(0, 0), (3, 14), (4, 54)] := fun h => by rw [List.take_of_length_le (by omega)]; exact hly
  have CN := Lib.hid (fun W z (h : Rd W z (nus .u8 (F.take kk))) => names_any z (F.take kk) (-1) W h (fun c hc => hlt c (List.mem_of_mem_take hc)))
  rw [show cutL (lys (F.take kk)) (-1) = lys (F.take kk) from by unfold cutL; rw [if_neg (by omega)]] at CN
  rw [hlen] at CB
  have HFL := Lib.hid hlen
  have HKK := Lib.hid hk
  have HA := Lib.hid hA
  have HB := Lib.hid hB
  have HD := Lib.hid hD
  generalize flow u true false = kc at *
  clear T hlt hC hlen hly hA hB hD hu hk
  have kcv := fun (w : World) (C : Array Value) (n c : Nat) => Lib.run_convert_bytes_const (P := Try.prog) w 22 5 C n c Try.underlying22 Try.underlying5
  have K := Lib.hid (Below.refl w.heap.size w)
  go_enter Try.func6, Try.ntmps6
  go_wp2_with fail
  refine (CK.out _).mono ?_
  rintro e V1 ⟨rfl, hy⟩
  replace K := Lib.hid (K.out.trans (hy.mono K.out.size))
  clear hy
  have hal := (Below.refl V1.heap.size V1).alloc (Nat.le_refl _) (.cells #[Value.int .u8 97, .int .u8 98, .int .u8 99] 5 (3, 3 + 1))
  have RL0 := Lib.hid (show Rd (V1.alloc (.cells #[Value.int .u8 97, .int .u8 98, .int .u8 99] 5 (3, 3 + 1))) (.slice (some ⟨V1.heap.size, 0, none⟩) 3 3) (nus .u8 [97, 98, 99]) from rd_lit V1 .u8 5 [97, 98, 99] 3 (3, 4) rfl (by simp [maxLen]))
  go_wp2_with fail
  replace K := Lib.hid (K.out.trans (hal.mono K.out.size))
  clear hal kcv
  refine (CB.out _ _ RL0.out).mono ?_
  rintro e V2 ⟨gb, cb, rfl, ho, hy⟩
  replace K := Lib.hid (K.out.trans (hy.mono K.out.size))
  have RC := Lib.hid ((Rd.own ho).front kk (by rw [HFL.out]; exact hk2))
  have KB := Lib.hid (Below.refl V2.heap.size V2)
  have qB : w.heap.size ≤ V2.heap.size := K.out.size
  have hcc : (kk : Int) ≤ (cb : Int) := by
    obtain ⟨_, _, e1, h1, -⟩ := Rd.own ho
    simp only [Value.slice.injEq] at e1
    obtain ⟨-, -, rfl⟩ := e1
    rw [nus_length, HFL.out] at h1
    omega
  clear ho hy RL0 CB CK
  go_wp2_with fail
  refine (round_any cut 78 _ (by omega) (by omega)).mono ?_
  rintro e V3 ⟨rfl, rfl⟩
  rw [HKK.out]
  have qV := KB.out.size
  go_wp2_with (((with_reducible refine wpList_one_rec (o := ⟨some 32, .buildSlice 34 1 #[(0, Operand.tmp 31)], _, _, _, _⟩) ?lg3 34 46 (.tmp 31) ?lo3 { data := #[101, 116, 104, 101, 114] } 0 ?lx3 Try.underlying34 rec46 ?_); (case lg3 => rfl); (case lo3 => rfl); (case lx3 => rfl)))
  intro V4 hg3 hy hz3
  replace K := Lib.hid (K.out.trans (hy.mono K.out.size))
  replace KB := Lib.hid (KB.out.trans (hy.mono KB.out.size))
  clear hy hz3
  have HG3 := Lib.hid hg3
  clear hg3
  have LR := Lib.hid (own_rec (base := V2.heap.size) HG3.out qV)
  by_cases h1 : kk < 14
  case pos =>
    have hdk : decide ((kk : Int) < 14) = true := decide_eq_true (by omega)
    have hL := HA.out h1
    rw [hL] at CN
    clear h1 hL HA HB HD
    go_wp2_with fail
    refine (CN.out _ _ (RC.out.below KB.out)).mono ?_
    rintro e V5 ⟨x9, rfl, hx, hy⟩
    replace K := Lib.hid (K.out.trans (hy.mono K.out.size))
    replace KB := Lib.hid (KB.out.trans (hy.mono KB.out.size))
    replace LR := Lib.hid (row_under2 LR.out hy)
    obtain ⟨a9, c9, rfl⟩ := row_shape hx
    clear hx
    clear hy
    go_wp2_with fail
    refine (awake_any _).mono ?_
    rintro e V6 ⟨rfl, hy⟩
    replace K := Lib.hid (K.out.trans (hy.mono K.out.size))
    replace KB := Lib.hid (KB.out.trans (hy.mono KB.out.size))
    replace LR := Lib.hid (row_under2 LR.out hy)
    clear hy
    go_wp2
    go_ret
    exact ⟨rfl, K.out⟩
  case neg =>
    have hdk : decide ((kk : Int) < 14) = false := decide_eq_false (by omega)
    by_cases h2 : kk = 77
    case neg =>
      have hL := HB.out (by omega) (by omega)
      rw [hL] at CN
      have hke : ((kk : Int) == 77) = false := by rw [beq_eq_false_iff_ne]; omega
      clear h1 h2 hL HA HB HD
      go_wp2_with fail
      refine (CN.out _ _ (RC.out.below KB.out)).mono ?_
      rintro e V5 ⟨x9, rfl, hx, hy⟩
      replace K := Lib.hid (K.out.trans (hy.mono K.out.size))
      replace KB := Lib.hid (KB.out.trans (hy.mono KB.out.size))
      replace LR := Lib.hid (row_under2 LR.out hy)
      have X9 := Lib.hid (RL.own hx)
      clear hx
      clear hy
      go_wp2_with fail
      refine (same_any x9 _ [(0, 0)] _ X9.out (RL.own (show _ from LR.out)) (by decide) (by simp)).mono ?_
      rintro e V6 ⟨rfl, hy⟩
      replace K := Lib.hid (K.out.trans (hy.mono K.out.size))
      replace KB := Lib.hid (KB.out.trans (hy.mono KB.out.size))
      replace LR := Lib.hid (row_under2 LR.out hy)
      clear hy
      go_wp2_with fail
      refine (awake_any _).mono ?_
      rintro e V7 ⟨rfl, hy⟩
      replace K := Lib.hid (K.out.trans (hy.mono K.out.size))
      replace KB := Lib.hid (KB.out.trans (hy.mono KB.out.size))
      replace LR := Lib.hid (row_under2 LR.out hy)
      clear hy
      go_wp2
      go_ret
      exact ⟨rfl, K.out⟩
    case pos =>
      have hL := HD.out h2
      rw [hL] at CN
      have hke : ((kk : Int) == 77) = true := by rw [beq_iff_eq]; omega
      clear h1 h2 hL HA HB HD
      go_wp2_with (((with_reducible refine wpList_two_rec (o := ⟨some 65, .buildSlice 34 2 #[(0, Operand.tmp 59), (1, Operand.tmp 64)], _, _, _, _⟩) ?lg2 34 46 (.tmp 59) (.tmp 64) ?lo2 { data := #[105, 112, 118, 54] } { data := #[116, 99, 112] } 14 54 ?lx2 ?ly2 Try.underlying34 rec46 ?_); (case lg2 => rfl); (case lo2 => rfl); (case lx2 => rfl); (case ly2 => rfl)))
      intro V5 hg2x hy hz2x
      replace K := Lib.hid (K.out.trans (hy.mono K.out.size))
      replace KB := Lib.hid (KB.out.trans (hy.mono KB.out.size))
      replace LR := Lib.hid (row_under2 LR.out hy)
      clear hy hz2x
      have HG2 := Lib.hid hg2x
      clear hg2x
      go_wp2_with (((with_reducible refine wpList_app_two (o := ⟨some 66, .call { callee := .builtin .append, args := #[Operand.tmp 56, Operand.tmp 65], argTypes := #[34, 34] }, _, _, _, _⟩) ?mg2 (.tmp 56) (.tmp 65) 34 46 ?mo2 Try.underlying34 rec46 V2.heap.size (.slice (some ⟨V2.heap.size, 0, none⟩) 1 1) 1 [.string { data := #[101, 116, 104, 101, 114] }, .int .i64 0] ?ms2 LR.out (V4.heap.size) { data := #[105, 112, 118, 54] } { data := #[116, 99, 112] } 14 54 ?mx2 HG2.out ?mn2 KB.out.size ?_); (case mg2 => rfl); (case mo2 => rfl); (case ms2 => rfl); (case mx2 => rfl); (case mn2 => omega)))
      intro x8 V6 oz gz
      replace K := Lib.hid (below_grown K.out LR.out qB K.out.size gz)
      replace KB := Lib.hid (below_grown KB.out LR.out (Nat.le_refl _) KB.out.size gz)
      replace LR := Lib.hid oz
      clear oz gz
      go_wp2_with fail
      refine (CN.out _ _ (RC.out.below KB.out)).mono ?_
      rintro e V7 ⟨x9, rfl, hx, hy⟩
      replace K := Lib.hid (K.out.trans (hy.mono K.out.size))
      replace KB := Lib.hid (KB.out.trans (hy.mono KB.out.size))
      replace LR := Lib.hid (row_under2 LR.out hy)
      have X9 := Lib.hid (RL.own hx)
      clear hx
      clear hy
      go_wp2_with fail
      refine (same_any x9 _ [(0, 0), (3, 14), (4, 54)] _ X9.out (RL.own (show _ from LR.out)) (by decide) (by simp)).mono ?_
      rintro e V8 ⟨rfl, hy⟩
      replace K := Lib.hid (K.out.trans (hy.mono K.out.size))
      replace KB := Lib.hid (KB.out.trans (hy.mono KB.out.size))
      replace LR := Lib.hid (row_under2 LR.out hy)
      clear hy
      go_wp2_with fail
      refine (awake_any _).mono ?_
      rintro e V9 ⟨rfl, hy⟩
      replace K := Lib.hid (K.out.trans (hy.mono K.out.size))
      replace KB := Lib.hid (KB.out.trans (hy.mono KB.out.size))
      replace LR := Lib.hid (row_under2 LR.out hy)
      clear hy
      go_wp2
      go_ret
      exact ⟨rfl, K.out⟩

set_option maxRecDepth 100000 in
set_option maxHeartbeats 4000000 in
theorem lay_ftt (n : Int) (cut : Int) (w : World) :
    Calls Try.prog 6 #[.int .i64 n, .bool true, .bool true, .bool false, .int .i64 cut] w fun e w' => e = .returned (.bool true) ∧ Below w.heap.size w w' := by
  obtain ⟨u, hu⟩ : ∃ u, u = (n % 1073741824).toNat := ⟨_, rfl⟩
  have CK := Lib.hid (fun W => flow_any n true true W)
  rw [← hu] at CK
  have CB := Lib.hid (show ∀ W z, Rd W (.slice (some z) 3 3) (nus .u8 [97, 98, 99]) → _ from fun W z (h : Rd W (.slice (some z) 3 3) (nus .u8 [97, 98, 99])) => fB8_any u true true 0 0 (some z) 3 3 [97, 98, 99] false false W h rfl (by intro e; cases e) (by decide) (by omega) (by omega) (by omega))
  have T := fB8_told u true true 0 [97, 98, 99] false false (List.replicate 0 0) (by decide)
  have hlt := fB8_lt u true true 0 [97, 98, 99] false false 0 (by omega) (by decide)
  have hC := fun k hk => (cut8 true (sV u) dV (pr true) (1000 + u % 50000) 80 0 [97, 98, 99] false false (List.replicate 0 0) (pr_or true) (sV_len u) dV_len (by decide) k hk).2
  rw [show frR true (sV u) dV (pr true) (1000 + u % 50000) 80 0 [97, 98, 99] false false (List.replicate 0 0) = fB8 u true true 0 [97, 98, 99] false false (List.replicate 0 0) from rfl] at hC
  generalize fB8 u true true 0 [97, 98, 99] false false (List.replicate 0 0) = F at *
  have hlen : F.length = 65 := T.len
  have hly : lys F = [(0, 0), (3, 14), (5, 54)] := T.ly
  obtain ⟨kk, hk, hk2⟩ : ∃ k : Nat, cut % 66 = (k : Int) ∧ k ≤ 65 := ⟨(cut % 66).toNat, by omega, by omega⟩
  have hA : kk < 14 → lys (F.take kk) = [] := fun h => (hC kk (show kk < 14 + 40 + (8 + 3) by omega)).trans (if_pos h)
  have hB : 14 ≤ kk → kk < 65 → lys (F.take kk) = [(0, 0)] := fun h h2 => (hC kk (show kk < 14 + 40 + (8 + 3) by omega)).trans (if_neg (show ¬ kk < 14 by omega))
  have hD : kk = 65 → lys (F.take kk) = [(0, 0), (3, 14), (5, 54)] := fun h => by rw [List.take_of_length_le (by omega)]; exact hly
  have CN := Lib.hid (fun W z (h : Rd W z (nus .u8 (F.take kk))) => names_any z (F.take kk) (-1) W h (fun c hc => hlt c (List.mem_of_mem_take hc)))
  rw [show cutL (lys (F.take kk)) (-1) = lys (F.take kk) from by unfold cutL; rw [if_neg (by omega)]] at CN
  rw [hlen] at CB
  have HFL := Lib.hid hlen
  have HKK := Lib.hid hk
  have HA := Lib.hid hA
  have HB := Lib.hid hB
  have HD := Lib.hid hD
  generalize flow u true true = kc at *
  clear T hlt hC hlen hly hA hB hD hu hk
  have kcv := fun (w : World) (C : Array Value) (n c : Nat) => Lib.run_convert_bytes_const (P := Try.prog) w 22 5 C n c Try.underlying22 Try.underlying5
  have K := Lib.hid (Below.refl w.heap.size w)
  go_enter Try.func6, Try.ntmps6
  go_wp2_with fail
  refine (CK.out _).mono ?_
  rintro e V1 ⟨rfl, hy⟩
  replace K := Lib.hid (K.out.trans (hy.mono K.out.size))
  clear hy
  have hal := (Below.refl V1.heap.size V1).alloc (Nat.le_refl _) (.cells #[Value.int .u8 97, .int .u8 98, .int .u8 99] 5 (3, 3 + 1))
  have RL0 := Lib.hid (show Rd (V1.alloc (.cells #[Value.int .u8 97, .int .u8 98, .int .u8 99] 5 (3, 3 + 1))) (.slice (some ⟨V1.heap.size, 0, none⟩) 3 3) (nus .u8 [97, 98, 99]) from rd_lit V1 .u8 5 [97, 98, 99] 3 (3, 4) rfl (by simp [maxLen]))
  go_wp2_with fail
  replace K := Lib.hid (K.out.trans (hal.mono K.out.size))
  clear hal kcv
  refine (CB.out _ _ RL0.out).mono ?_
  rintro e V2 ⟨gb, cb, rfl, ho, hy⟩
  replace K := Lib.hid (K.out.trans (hy.mono K.out.size))
  have RC := Lib.hid ((Rd.own ho).front kk (by rw [HFL.out]; exact hk2))
  have KB := Lib.hid (Below.refl V2.heap.size V2)
  have qB : w.heap.size ≤ V2.heap.size := K.out.size
  have hcc : (kk : Int) ≤ (cb : Int) := by
    obtain ⟨_, _, e1, h1, -⟩ := Rd.own ho
    simp only [Value.slice.injEq] at e1
    obtain ⟨-, -, rfl⟩ := e1
    rw [nus_length, HFL.out] at h1
    omega
  clear ho hy RL0 CB CK
  go_wp2_with fail
  refine (round_any cut 66 _ (by omega) (by omega)).mono ?_
  rintro e V3 ⟨rfl, rfl⟩
  rw [HKK.out]
  have qV := KB.out.size
  go_wp2_with (((with_reducible refine wpList_one_rec (o := ⟨some 32, .buildSlice 34 1 #[(0, Operand.tmp 31)], _, _, _, _⟩) ?lg4 34 46 (.tmp 31) ?lo4 { data := #[101, 116, 104, 101, 114] } 0 ?lx4 Try.underlying34 rec46 ?_); (case lg4 => rfl); (case lo4 => rfl); (case lx4 => rfl)))
  intro V4 hg4 hy hz4
  replace K := Lib.hid (K.out.trans (hy.mono K.out.size))
  replace KB := Lib.hid (KB.out.trans (hy.mono KB.out.size))
  clear hy hz4
  have HG4 := Lib.hid hg4
  clear hg4
  have LR := Lib.hid (own_rec (base := V2.heap.size) HG4.out qV)
  by_cases h1 : kk < 14
  case pos =>
    have hdk : decide ((kk : Int) < 14) = true := decide_eq_true (by omega)
    have hL := HA.out h1
    rw [hL] at CN
    clear h1 hL HA HB HD
    go_wp2_with fail
    refine (CN.out _ _ (RC.out.below KB.out)).mono ?_
    rintro e V5 ⟨x9, rfl, hx, hy⟩
    replace K := Lib.hid (K.out.trans (hy.mono K.out.size))
    replace KB := Lib.hid (KB.out.trans (hy.mono KB.out.size))
    replace LR := Lib.hid (row_under2 LR.out hy)
    obtain ⟨a9, c9, rfl⟩ := row_shape hx
    clear hx
    clear hy
    go_wp2_with fail
    refine (awake_any _).mono ?_
    rintro e V6 ⟨rfl, hy⟩
    replace K := Lib.hid (K.out.trans (hy.mono K.out.size))
    replace KB := Lib.hid (KB.out.trans (hy.mono KB.out.size))
    replace LR := Lib.hid (row_under2 LR.out hy)
    clear hy
    go_wp2
    go_ret
    exact ⟨rfl, K.out⟩
  case neg =>
    have hdk : decide ((kk : Int) < 14) = false := decide_eq_false (by omega)
    by_cases h2 : kk = 65
    case neg =>
      have hL := HB.out (by omega) (by omega)
      rw [hL] at CN
      have hke : ((kk : Int) == 65) = false := by rw [beq_eq_false_iff_ne]; omega
      clear h1 h2 hL HA HB HD
      go_wp2_with fail
      refine (CN.out _ _ (RC.out.below KB.out)).mono ?_
      rintro e V5 ⟨x9, rfl, hx, hy⟩
      replace K := Lib.hid (K.out.trans (hy.mono K.out.size))
      replace KB := Lib.hid (KB.out.trans (hy.mono KB.out.size))
      replace LR := Lib.hid (row_under2 LR.out hy)
      have X9 := Lib.hid (RL.own hx)
      clear hx
      clear hy
      go_wp2_with fail
      refine (same_any x9 _ [(0, 0)] _ X9.out (RL.own (show _ from LR.out)) (by decide) (by simp)).mono ?_
      rintro e V6 ⟨rfl, hy⟩
      replace K := Lib.hid (K.out.trans (hy.mono K.out.size))
      replace KB := Lib.hid (KB.out.trans (hy.mono KB.out.size))
      replace LR := Lib.hid (row_under2 LR.out hy)
      clear hy
      go_wp2_with fail
      refine (awake_any _).mono ?_
      rintro e V7 ⟨rfl, hy⟩
      replace K := Lib.hid (K.out.trans (hy.mono K.out.size))
      replace KB := Lib.hid (KB.out.trans (hy.mono KB.out.size))
      replace LR := Lib.hid (row_under2 LR.out hy)
      clear hy
      go_wp2
      go_ret
      exact ⟨rfl, K.out⟩
    case pos =>
      have hL := HD.out h2
      rw [hL] at CN
      have hke : ((kk : Int) == 65) = true := by rw [beq_iff_eq]; omega
      clear h1 h2 hL HA HB HD
      go_wp2_with (((with_reducible refine wpList_two_rec (o := ⟨some 65, .buildSlice 34 2 #[(0, Operand.tmp 59), (1, Operand.tmp 64)], _, _, _, _⟩) ?lg2 34 46 (.tmp 59) (.tmp 64) ?lo2 { data := #[105, 112, 118, 54] } { data := #[117, 100, 112] } 14 54 ?lx2 ?ly2 Try.underlying34 rec46 ?_); (case lg2 => rfl); (case lo2 => rfl); (case lx2 => rfl); (case ly2 => rfl)))
      intro V5 hg2x hy hz2x
      replace K := Lib.hid (K.out.trans (hy.mono K.out.size))
      replace KB := Lib.hid (KB.out.trans (hy.mono KB.out.size))
      replace LR := Lib.hid (row_under2 LR.out hy)
      clear hy hz2x
      have HG2 := Lib.hid hg2x
      clear hg2x
      go_wp2_with (((with_reducible refine wpList_app_two (o := ⟨some 66, .call { callee := .builtin .append, args := #[Operand.tmp 56, Operand.tmp 65], argTypes := #[34, 34] }, _, _, _, _⟩) ?mg2 (.tmp 56) (.tmp 65) 34 46 ?mo2 Try.underlying34 rec46 V2.heap.size (.slice (some ⟨V2.heap.size, 0, none⟩) 1 1) 1 [.string { data := #[101, 116, 104, 101, 114] }, .int .i64 0] ?ms2 LR.out (V4.heap.size) { data := #[105, 112, 118, 54] } { data := #[117, 100, 112] } 14 54 ?mx2 HG2.out ?mn2 KB.out.size ?_); (case mg2 => rfl); (case mo2 => rfl); (case ms2 => rfl); (case mx2 => rfl); (case mn2 => omega)))
      intro x8 V6 oz gz
      replace K := Lib.hid (below_grown K.out LR.out qB K.out.size gz)
      replace KB := Lib.hid (below_grown KB.out LR.out (Nat.le_refl _) KB.out.size gz)
      replace LR := Lib.hid oz
      clear oz gz
      go_wp2_with fail
      refine (CN.out _ _ (RC.out.below KB.out)).mono ?_
      rintro e V7 ⟨x9, rfl, hx, hy⟩
      replace K := Lib.hid (K.out.trans (hy.mono K.out.size))
      replace KB := Lib.hid (KB.out.trans (hy.mono KB.out.size))
      replace LR := Lib.hid (row_under2 LR.out hy)
      have X9 := Lib.hid (RL.own hx)
      clear hx
      clear hy
      go_wp2_with fail
      refine (same_any x9 _ [(0, 0), (3, 14), (5, 54)] _ X9.out (RL.own (show _ from LR.out)) (by decide) (by simp)).mono ?_
      rintro e V8 ⟨rfl, hy⟩
      replace K := Lib.hid (K.out.trans (hy.mono K.out.size))
      replace KB := Lib.hid (KB.out.trans (hy.mono KB.out.size))
      replace LR := Lib.hid (row_under2 LR.out hy)
      clear hy
      go_wp2_with fail
      refine (awake_any _).mono ?_
      rintro e V9 ⟨rfl, hy⟩
      replace K := Lib.hid (K.out.trans (hy.mono K.out.size))
      replace KB := Lib.hid (KB.out.trans (hy.mono KB.out.size))
      replace LR := Lib.hid (row_under2 LR.out hy)
      clear hy
      go_wp2
      go_ret
      exact ⟨rfl, K.out⟩

set_option maxRecDepth 100000 in
set_option maxHeartbeats 4000000 in
theorem lay_tff (n : Int) (cut : Int) (w : World) :
    Calls Try.prog 6 #[.int .i64 n, .bool false, .bool false, .bool true, .int .i64 cut] w fun e w' => e = .returned (.bool true) ∧ Below w.heap.size w w' := by
  obtain ⟨u, hu⟩ : ∃ u, u = (n % 1073741824).toNat := ⟨_, rfl⟩
  have CK := Lib.hid (fun W => flow_any n false false W)
  rw [← hu] at CK
  have CB := Lib.hid (show ∀ W z, Rd W (.slice (some z) 3 3) (nus .u8 [97, 98, 99]) → _ from fun W z (h : Rd W (.slice (some z) 3 3) (nus .u8 [97, 98, 99])) => fB8_any u false false 0 0 (some z) 3 3 [97, 98, 99] true false W h rfl (by intro e; cases e) (by decide) (by omega) (by omega) (by omega))
  have T := fB8_told u false false 0 [97, 98, 99] true false (List.replicate 0 0) (by decide)
  have hlt := fB8_lt u false false 0 [97, 98, 99] true false 0 (by omega) (by decide)
  have hC := fun k hk => (cut8 false (sV u) dV (pr false) (1000 + u % 50000) 80 0 [97, 98, 99] true false (List.replicate 0 0) (pr_or false) (sV_len u) dV_len (by decide) k hk).2
  rw [show frR false (sV u) dV (pr false) (1000 + u % 50000) 80 0 [97, 98, 99] true false (List.replicate 0 0) = fB8 u false false 0 [97, 98, 99] true false (List.replicate 0 0) from rfl] at hC
  generalize fB8 u false false 0 [97, 98, 99] true false (List.replicate 0 0) = F at *
  have hlen : F.length = 61 := T.len
  have hly : lys F = [(0, 0), (1, 14), (2, 18), (4, 38)] := T.ly
  obtain ⟨kk, hk, hk2⟩ : ∃ k : Nat, cut % 62 = (k : Int) ∧ k ≤ 61 := ⟨(cut % 62).toNat, by omega, by omega⟩
  have hA : kk < 18 → lys (F.take kk) = [] := fun h => (hC kk (show kk < 18 + 20 + (20 + 3) by omega)).trans (if_pos h)
  have hB : 18 ≤ kk → kk < 61 → lys (F.take kk) = [(0, 0), (1, 14)] := fun h h2 => (hC kk (show kk < 18 + 20 + (20 + 3) by omega)).trans (if_neg (show ¬ kk < 18 by omega))
  have hD : kk = 61 → lys (F.take kk) = [(0, 0), (1, 14), (2, 18), (4, 38)] := fun h => by rw [List.take_of_length_le (by omega)]; exact hly
  have CN := Lib.hid (fun W z (h : Rd W z (nus .u8 (F.take kk))) => names_any z (F.take kk) (-1) W h (fun c hc => hlt c (List.mem_of_mem_take hc)))
  rw [show cutL (lys (F.take kk)) (-1) = lys (F.take kk) from by unfold cutL; rw [if_neg (by omega)]] at CN
  rw [hlen] at CB
  have HFL := Lib.hid hlen
  have HKK := Lib.hid hk
  have HA := Lib.hid hA
  have HB := Lib.hid hB
  have HD := Lib.hid hD
  generalize flow u false false = kc at *
  clear T hlt hC hlen hly hA hB hD hu hk
  have kcv := fun (w : World) (C : Array Value) (n c : Nat) => Lib.run_convert_bytes_const (P := Try.prog) w 22 5 C n c Try.underlying22 Try.underlying5
  have K := Lib.hid (Below.refl w.heap.size w)
  go_enter Try.func6, Try.ntmps6
  go_wp2_with fail
  refine (CK.out _).mono ?_
  rintro e V1 ⟨rfl, hy⟩
  replace K := Lib.hid (K.out.trans (hy.mono K.out.size))
  clear hy
  have hal := (Below.refl V1.heap.size V1).alloc (Nat.le_refl _) (.cells #[Value.int .u8 97, .int .u8 98, .int .u8 99] 5 (3, 3 + 1))
  have RL0 := Lib.hid (show Rd (V1.alloc (.cells #[Value.int .u8 97, .int .u8 98, .int .u8 99] 5 (3, 3 + 1))) (.slice (some ⟨V1.heap.size, 0, none⟩) 3 3) (nus .u8 [97, 98, 99]) from rd_lit V1 .u8 5 [97, 98, 99] 3 (3, 4) rfl (by simp [maxLen]))
  go_wp2_with fail
  replace K := Lib.hid (K.out.trans (hal.mono K.out.size))
  clear hal kcv
  refine (CB.out _ _ RL0.out).mono ?_
  rintro e V2 ⟨gb, cb, rfl, ho, hy⟩
  replace K := Lib.hid (K.out.trans (hy.mono K.out.size))
  have RC := Lib.hid ((Rd.own ho).front kk (by rw [HFL.out]; exact hk2))
  have KB := Lib.hid (Below.refl V2.heap.size V2)
  have qB : w.heap.size ≤ V2.heap.size := K.out.size
  have hcc : (kk : Int) ≤ (cb : Int) := by
    obtain ⟨_, _, e1, h1, -⟩ := Rd.own ho
    simp only [Value.slice.injEq] at e1
    obtain ⟨-, -, rfl⟩ := e1
    rw [nus_length, HFL.out] at h1
    omega
  clear ho hy RL0 CB CK
  go_wp2_with fail
  refine (round_any cut 62 _ (by omega) (by omega)).mono ?_
  rintro e V3 ⟨rfl, rfl⟩
  rw [HKK.out]
  have qV := KB.out.size
  go_wp2_with (((with_reducible refine wpList_one_rec (o := ⟨some 32, .buildSlice 34 1 #[(0, Operand.tmp 31)], _, _, _, _⟩) ?lg5 34 46 (.tmp 31) ?lo5 { data := #[101, 116, 104, 101, 114] } 0 ?lx5 Try.underlying34 rec46 ?_); (case lg5 => rfl); (case lo5 => rfl); (case lx5 => rfl)))
  intro V4 hg5 hy hz5
  replace K := Lib.hid (K.out.trans (hy.mono K.out.size))
  replace KB := Lib.hid (KB.out.trans (hy.mono KB.out.size))
  clear hy hz5
  have HG5 := Lib.hid hg5
  clear hg5
  have LR := Lib.hid (own_rec (base := V2.heap.size) HG5.out qV)
  go_wp2_with (((with_reducible refine wpList_one_rec (o := ⟨some 36, .buildSlice 34 1 #[(0, Operand.tmp 35)], _, _, _, _⟩) ?lg6 34 46 (.tmp 35) ?lo6 { data := #[118, 108, 97, 110] } 14 ?lx6 Try.underlying34 rec46 ?_); (case lg6 => rfl); (case lo6 => rfl); (case lx6 => rfl)))
  intro V5 hg6 hy hz6
  replace K := Lib.hid (K.out.trans (hy.mono K.out.size))
  replace KB := Lib.hid (KB.out.trans (hy.mono KB.out.size))
  replace LR := Lib.hid (row_under2 LR.out hy)
  clear hy hz6
  have HG6 := Lib.hid hg6
  clear hg6
  go_wp2_with (((with_reducible refine wpList_app_rec (o := ⟨some 37, .call { callee := .builtin .append, args := #[Operand.tmp 34, Operand.tmp 36], argTypes := #[34, 34] }, _, _, _, _⟩) ?lg7 (.tmp 34) (.tmp 36) 34 46 ?lo7 Try.underlying34 rec46 V2.heap.size (.slice (some ⟨V2.heap.size, 0, none⟩) 1 1) 1 [.string { data := #[101, 116, 104, 101, 114] }, .int .i64 0] ?ls7 LR.out (V4.heap.size) { data := #[118, 108, 97, 110] } 14 ?lx7 HG6.out ?ln7 KB.out.size ?_); (case lg7 => rfl); (case lo7 => rfl); (case ls7 => rfl); (case lx7 => rfl); (case ln7 => omega)))
  intro x7 V6 oz gz
  replace K := Lib.hid (below_grown K.out LR.out qB K.out.size gz)
  replace KB := Lib.hid (below_grown KB.out LR.out (Nat.le_refl _) KB.out.size gz)
  replace LR := Lib.hid oz
  clear oz gz
  by_cases h1 : kk < 18
  case pos =>
    have hdk : decide ((kk : Int) < 18) = true := decide_eq_true (by omega)
    have hL := HA.out h1
    rw [hL] at CN
    clear h1 hL HA HB HD
    go_wp2_with fail
    refine (CN.out _ _ (RC.out.below KB.out)).mono ?_
    rintro e V7 ⟨x9, rfl, hx, hy⟩
    replace K := Lib.hid (K.out.trans (hy.mono K.out.size))
    replace KB := Lib.hid (KB.out.trans (hy.mono KB.out.size))
    replace LR := Lib.hid (row_under2 LR.out hy)
    obtain ⟨a9, c9, rfl⟩ := row_shape hx
    clear hx
    clear hy
    go_wp2_with fail
    refine (awake_any _).mono ?_
    rintro e V8 ⟨rfl, hy⟩
    replace K := Lib.hid (K.out.trans (hy.mono K.out.size))
    replace KB := Lib.hid (KB.out.trans (hy.mono KB.out.size))
    replace LR := Lib.hid (row_under2 LR.out hy)
    clear hy
    go_wp2
    go_ret
    exact ⟨rfl, K.out⟩
  case neg =>
    have hdk : decide ((kk : Int) < 18) = false := decide_eq_false (by omega)
    by_cases h2 : kk = 61
    case neg =>
      have hL := HB.out (by omega) (by omega)
      rw [hL] at CN
      have hke : ((kk : Int) == 61) = false := by rw [beq_eq_false_iff_ne]; omega
      clear h1 h2 hL HA HB HD
      go_wp2_with fail
      refine (CN.out _ _ (RC.out.below KB.out)).mono ?_
      rintro e V7 ⟨x9, rfl, hx, hy⟩
      replace K := Lib.hid (K.out.trans (hy.mono K.out.size))
      replace KB := Lib.hid (KB.out.trans (hy.mono KB.out.size))
      replace LR := Lib.hid (row_under2 LR.out hy)
      have X9 := Lib.hid (RL.own hx)
      clear hx
      clear hy
      go_wp2_with fail
      refine (same_any x9 _ [(0, 0), (1, 14)] _ X9.out (RL.own (show _ from LR.out)) (by decide) (by simp)).mono ?_
      rintro e V8 ⟨rfl, hy⟩
      replace K := Lib.hid (K.out.trans (hy.mono K.out.size))
      replace KB := Lib.hid (KB.out.trans (hy.mono KB.out.size))
      replace LR := Lib.hid (row_under2 LR.out hy)
      clear hy
      go_wp2_with fail
      refine (awake_any _).mono ?_
      rintro e V9 ⟨rfl, hy⟩
      replace K := Lib.hid (K.out.trans (hy.mono K.out.size))
      replace KB := Lib.hid (KB.out.trans (hy.mono KB.out.size))
      replace LR := Lib.hid (row_under2 LR.out hy)
      clear hy
      go_wp2
      go_ret
      exact ⟨rfl, K.out⟩
    case pos =>
      have hL := HD.out h2
      rw [hL] at CN
      have hke : ((kk : Int) == 61) = true := by rw [beq_iff_eq]; omega
      clear h1 h2 hL HA HB HD
      go_wp2_with (((with_reducible refine wpList_two_rec (o := ⟨some 65, .buildSlice 34 2 #[(0, Operand.tmp 59), (1, Operand.tmp 64)], _, _, _, _⟩) ?lg2 34 46 (.tmp 59) (.tmp 64) ?lo2 { data := #[105, 112, 118, 52] } { data := #[116, 99, 112] } 18 38 ?lx2 ?ly2 Try.underlying34 rec46 ?_); (case lg2 => rfl); (case lo2 => rfl); (case lx2 => rfl); (case ly2 => rfl)))
      intro V7 hg2x hy hz2x
      replace K := Lib.hid (K.out.trans (hy.mono K.out.size))
      replace KB := Lib.hid (KB.out.trans (hy.mono KB.out.size))
      replace LR := Lib.hid (row_under2 LR.out hy)
      clear hy hz2x
      have HG2 := Lib.hid hg2x
      clear hg2x
      go_wp2_with (((with_reducible refine wpList_app_two (o := ⟨some 66, .call { callee := .builtin .append, args := #[Operand.tmp 56, Operand.tmp 65], argTypes := #[34, 34] }, _, _, _, _⟩) ?mg2 (.tmp 56) (.tmp 65) 34 46 ?mo2 Try.underlying34 rec46 V2.heap.size x7 (1 + 1) ([.string { data := #[101, 116, 104, 101, 114] }, .int .i64 0] ++ [.string { data := #[118, 108, 97, 110] }, .int .i64 14]) ?ms2 LR.out (V6.heap.size) { data := #[105, 112, 118, 52] } { data := #[116, 99, 112] } 18 38 ?mx2 HG2.out ?mn2 KB.out.size ?_); (case mg2 => rfl); (case mo2 => rfl); (case ms2 => rfl); (case mx2 => rfl); (case mn2 => omega)))
      intro x8 V8 oz gz
      replace K := Lib.hid (below_grown K.out LR.out qB K.out.size gz)
      replace KB := Lib.hid (below_grown KB.out LR.out (Nat.le_refl _) KB.out.size gz)
      replace LR := Lib.hid oz
      clear oz gz
      go_wp2_with fail
      refine (CN.out _ _ (RC.out.below KB.out)).mono ?_
      rintro e V9 ⟨x9, rfl, hx, hy⟩
      replace K := Lib.hid (K.out.trans (hy.mono K.out.size))
      replace KB := Lib.hid (KB.out.trans (hy.mono KB.out.size))
      replace LR := Lib.hid (row_under2 LR.out hy)
      have X9 := Lib.hid (RL.own hx)
      clear hx
      clear hy
      go_wp2_with fail
      refine (same_any x9 _ [(0, 0), (1, 14), (2, 18), (4, 38)] _ X9.out (RL.own (show _ from LR.out)) (by decide) (by simp)).mono ?_
      rintro e V10 ⟨rfl, hy⟩
      replace K := Lib.hid (K.out.trans (hy.mono K.out.size))
      replace KB := Lib.hid (KB.out.trans (hy.mono KB.out.size))
      replace LR := Lib.hid (row_under2 LR.out hy)
      clear hy
      go_wp2_with fail
      refine (awake_any _).mono ?_
      rintro e V11 ⟨rfl, hy⟩
      replace K := Lib.hid (K.out.trans (hy.mono K.out.size))
      replace KB := Lib.hid (KB.out.trans (hy.mono KB.out.size))
      replace LR := Lib.hid (row_under2 LR.out hy)
      clear hy
      go_wp2
      go_ret
      exact ⟨rfl, K.out⟩

set_option maxRecDepth 100000 in
set_option maxHeartbeats 4000000 in
theorem lay_tft (n : Int) (cut : Int) (w : World) :
    Calls Try.prog 6 #[.int .i64 n, .bool false, .bool true, .bool true, .int .i64 cut] w fun e w' => e = .returned (.bool true) ∧ Below w.heap.size w w' := by
  obtain ⟨u, hu⟩ : ∃ u, u = (n % 1073741824).toNat := ⟨_, rfl⟩
  have CK := Lib.hid (fun W => flow_any n false true W)
  rw [← hu] at CK
  have CB := Lib.hid (show ∀ W z, Rd W (.slice (some z) 3 3) (nus .u8 [97, 98, 99]) → _ from fun W z (h : Rd W (.slice (some z) 3 3) (nus .u8 [97, 98, 99])) => fB8_any u false true 0 0 (some z) 3 3 [97, 98, 99] true false W h rfl (by intro e; cases e) (by decide) (by omega) (by omega) (by omega))
  have T := fB8_told u false true 0 [97, 98, 99] true false (List.replicate 0 0) (by decide)
  have hlt := fB8_lt u false true 0 [97, 98, 99] true false 0 (by omega) (by decide)
  have hC := fun k hk => (cut8 false (sV u) dV (pr true) (1000 + u % 50000) 80 0 [97, 98, 99] true false (List.replicate 0 0) (pr_or true) (sV_len u) dV_len (by decide) k hk).2
  rw [show frR false (sV u) dV (pr true) (1000 + u % 50000) 80 0 [97, 98, 99] true false (List.replicate 0 0) = fB8 u false true 0 [97, 98, 99] true false (List.replicate 0 0) from rfl] at hC
  generalize fB8 u false true 0 [97, 98, 99] true false (List.replicate 0 0) = F at *
  have hlen : F.length = 49 := T.len
  have hly : lys F = [(0, 0), (1, 14), (2, 18), (5, 38)] := T.ly
  obtain ⟨kk, hk, hk2⟩ : ∃ k : Nat, cut % 50 = (k : Int) ∧ k ≤ 49 := ⟨(cut % 50).toNat, by omega, by omega⟩
  have hA : kk < 18 → lys (F.take kk) = [] := fun h => (hC kk (show kk < 18 + 20 + (8 + 3) by omega)).trans (if_pos h)
  have hB : 18 ≤ kk → kk < 49 → lys (F.take kk) = [(0, 0), (1, 14)] := fun h h2 => (hC kk (show kk < 18 + 20 + (8 + 3) by omega)).trans (if_neg (show ¬ kk < 18 by omega))
  have hD : kk = 49 → lys (F.take kk) = [(0, 0), (1, 14), (2, 18), (5, 38)] := fun h => by rw [List.take_of_length_le (by omega)]; exact hly
  have CN := Lib.hid (fun W z (h : Rd W z (nus .u8 (F.take kk))) => names_any z (F.take kk) (-1) W h (fun c hc => hlt c (List.mem_of_mem_take hc)))
  rw [show cutL (lys (F.take kk)) (-1) = lys (F.take kk) from by unfold cutL; rw [if_neg (by omega)]] at CN
  rw [hlen] at CB
  have HFL := Lib.hid hlen
  have HKK := Lib.hid hk
  have HA := Lib.hid hA
  have HB := Lib.hid hB
  have HD := Lib.hid hD
  generalize flow u false true = kc at *
  clear T hlt hC hlen hly hA hB hD hu hk
  have kcv := fun (w : World) (C : Array Value) (n c : Nat) => Lib.run_convert_bytes_const (P := Try.prog) w 22 5 C n c Try.underlying22 Try.underlying5
  have K := Lib.hid (Below.refl w.heap.size w)
  go_enter Try.func6, Try.ntmps6
  go_wp2_with fail
  refine (CK.out _).mono ?_
  rintro e V1 ⟨rfl, hy⟩
  replace K := Lib.hid (K.out.trans (hy.mono K.out.size))
  clear hy
  have hal := (Below.refl V1.heap.size V1).alloc (Nat.le_refl _) (.cells #[Value.int .u8 97, .int .u8 98, .int .u8 99] 5 (3, 3 + 1))
  have RL0 := Lib.hid (show Rd (V1.alloc (.cells #[Value.int .u8 97, .int .u8 98, .int .u8 99] 5 (3, 3 + 1))) (.slice (some ⟨V1.heap.size, 0, none⟩) 3 3) (nus .u8 [97, 98, 99]) from rd_lit V1 .u8 5 [97, 98, 99] 3 (3, 4) rfl (by simp [maxLen]))
  go_wp2_with fail
  replace K := Lib.hid (K.out.trans (hal.mono K.out.size))
  clear hal kcv
  refine (CB.out _ _ RL0.out).mono ?_
  rintro e V2 ⟨gb, cb, rfl, ho, hy⟩
  replace K := Lib.hid (K.out.trans (hy.mono K.out.size))
  have RC := Lib.hid ((Rd.own ho).front kk (by rw [HFL.out]; exact hk2))
  have KB := Lib.hid (Below.refl V2.heap.size V2)
  have qB : w.heap.size ≤ V2.heap.size := K.out.size
  have hcc : (kk : Int) ≤ (cb : Int) := by
    obtain ⟨_, _, e1, h1, -⟩ := Rd.own ho
    simp only [Value.slice.injEq] at e1
    obtain ⟨-, -, rfl⟩ := e1
    rw [nus_length, HFL.out] at h1
    omega
  clear ho hy RL0 CB CK
  go_wp2_with fail
  refine (round_any cut 50 _ (by omega) (by omega)).mono ?_
  rintro e V3 ⟨rfl, rfl⟩
  rw [HKK.out]
  have qV := KB.out.size
  go_wp2_with (((with_reducible refine wpList_one_rec (o := ⟨some 32, .buildSlice 34 1 #[(0, Operand.tmp 31)], _, _, _, _⟩) ?lg8 34 46 (.tmp 31) ?lo8 { data := #[101, 116, 104, 101, 114] } 0 ?lx8 Try.underlying34 rec46 ?_); (case lg8 => rfl); (case lo8 => rfl); (case lx8 => rfl)))
  intro V4 hg8 hy hz8
  replace K := Lib.hid (K.out.trans (hy.mono K.out.size))
  replace KB := Lib.hid (KB.out.trans (hy.mono KB.out.size))
  clear hy hz8
  have HG8 := Lib.hid hg8
  clear hg8
  have LR := Lib.hid (own_rec (base := V2.heap.size) HG8.out qV)
  go_wp2_with (((with_reducible refine wpList_one_rec (o := ⟨some 36, .buildSlice 34 1 #[(0, Operand.tmp 35)], _, _, _, _⟩) ?lg9 34 46 (.tmp 35) ?lo9 { data := #[118, 108, 97, 110] } 14 ?lx9 Try.underlying34 rec46 ?_); (case lg9 => rfl); (case lo9 => rfl); (case lx9 => rfl)))
  intro V5 hg9 hy hz9
  replace K := Lib.hid (K.out.trans (hy.mono K.out.size))
  replace KB := Lib.hid (KB.out.trans (hy.mono KB.out.size))
  replace LR := Lib.hid (row_under2 LR.out hy)
  clear hy hz9
  have HG9 := Lib.hid hg9
  clear hg9
  go_wp2_with (((with_reducible refine wpList_app_rec (o := ⟨some 37, .call { callee := .builtin .append, args := #[Operand.tmp 34, Operand.tmp 36], argTypes := #[34, 34] }, _, _, _, _⟩) ?lg10 (.tmp 34) (.tmp 36) 34 46 ?lo10 Try.underlying34 rec46 V2.heap.size (.slice (some ⟨V2.heap.size, 0, none⟩) 1 1) 1 [.string { data := #[101, 116, 104, 101, 114] }, .int .i64 0] ?ls10 LR.out (V4.heap.size) { data := #[118, 108, 97, 110] } 14 ?lx10 HG9.out ?ln10 KB.out.size ?_); (case lg10 => rfl); (case lo10 => rfl); (case ls10 => rfl); (case lx10 => rfl); (case ln10 => omega)))
  intro x10 V6 oz gz
  replace K := Lib.hid (below_grown K.out LR.out qB K.out.size gz)
  replace KB := Lib.hid (below_grown KB.out LR.out (Nat.le_refl _) KB.out.size gz)
  replace LR := Lib.hid oz
  clear oz gz
  by_cases h1 : kk < 18
  case pos =>
    have hdk : decide ((kk : Int) < 18) = true := decide_eq_true (by omega)
    have hL := HA.out h1
    rw [hL] at CN
    clear h1 hL HA HB HD
    go_wp2_with fail
    refine (CN.out _ _ (RC.out.below KB.out)).mono ?_
    rintro e V7 ⟨x9, rfl, hx, hy⟩
    replace K := Lib.hid (K.out.trans (hy.mono K.out.size))
    replace KB := Lib.hid (KB.out.trans (hy.mono KB.out.size))
    replace LR := Lib.hid (row_under2 LR.out hy)
    obtain ⟨a9, c9, rfl⟩ := row_shape hx
    clear hx
    clear hy
    go_wp2_with fail
    refine (awake_any _).mono ?_
    rintro e V8 ⟨rfl, hy⟩
    replace K := Lib.hid (K.out.trans (hy.mono K.out.size))
    replace KB := Lib.hid (KB.out.trans (hy.mono KB.out.size))
    replace LR := Lib.hid (row_under2 LR.out hy)
    clear hy
    go_wp2
    go_ret
    exact ⟨rfl, K.out⟩
  case neg =>
    have hdk : decide ((kk : Int) < 18) = false := decide_eq_false (by omega)
    by_cases h2 : kk = 49
    case neg =>
      have hL := HB.out (by omega) (by omega)
      rw [hL] at CN
      have hke : ((kk : Int) == 49) = false := by rw [beq_eq_false_iff_ne]; omega
      clear h1 h2 hL HA HB HD
      go_wp2_with fail
      refine (CN.out _ _ (RC.out.below KB.out)).mono ?_
      rintro e V7 ⟨x9, rfl, hx, hy⟩
      replace K := Lib.hid (K.out.trans (hy.mono K.out.size))
      replace KB := Lib.hid (KB.out.trans (hy.mono KB.out.size))
      replace LR := Lib.hid (row_under2 LR.out hy)
      have X9 := Lib.hid (RL.own hx)
      clear hx
      clear hy
      go_wp2_with fail
      refine (same_any x9 _ [(0, 0), (1, 14)] _ X9.out (RL.own (show _ from LR.out)) (by decide) (by simp)).mono ?_
      rintro e V8 ⟨rfl, hy⟩
      replace K := Lib.hid (K.out.trans (hy.mono K.out.size))
      replace KB := Lib.hid (KB.out.trans (hy.mono KB.out.size))
      replace LR := Lib.hid (row_under2 LR.out hy)
      clear hy
      go_wp2_with fail
      refine (awake_any _).mono ?_
      rintro e V9 ⟨rfl, hy⟩
      replace K := Lib.hid (K.out.trans (hy.mono K.out.size))
      replace KB := Lib.hid (KB.out.trans (hy.mono KB.out.size))
      replace LR := Lib.hid (row_under2 LR.out hy)
      clear hy
      go_wp2
      go_ret
      exact ⟨rfl, K.out⟩
    case pos =>
      have hL := HD.out h2
      rw [hL] at CN
      have hke : ((kk : Int) == 49) = true := by rw [beq_iff_eq]; omega
      clear h1 h2 hL HA HB HD
      go_wp2_with (((with_reducible refine wpList_two_rec (o := ⟨some 65, .buildSlice 34 2 #[(0, Operand.tmp 59), (1, Operand.tmp 64)], _, _, _, _⟩) ?lg2 34 46 (.tmp 59) (.tmp 64) ?lo2 { data := #[105, 112, 118, 52] } { data := #[117, 100, 112] } 18 38 ?lx2 ?ly2 Try.underlying34 rec46 ?_); (case lg2 => rfl); (case lo2 => rfl); (case lx2 => rfl); (case ly2 => rfl)))
      intro V7 hg2x hy hz2x
      replace K := Lib.hid (K.out.trans (hy.mono K.out.size))
      replace KB := Lib.hid (KB.out.trans (hy.mono KB.out.size))
      replace LR := Lib.hid (row_under2 LR.out hy)
      clear hy hz2x
      have HG2 := Lib.hid hg2x
      clear hg2x
      go_wp2_with (((with_reducible refine wpList_app_two (o := ⟨some 66, .call { callee := .builtin .append, args := #[Operand.tmp 56, Operand.tmp 65], argTypes := #[34, 34] }, _, _, _, _⟩) ?mg2 (.tmp 56) (.tmp 65) 34 46 ?mo2 Try.underlying34 rec46 V2.heap.size x10 (1 + 1) ([.string { data := #[101, 116, 104, 101, 114] }, .int .i64 0] ++ [.string { data := #[118, 108, 97, 110] }, .int .i64 14]) ?ms2 LR.out (V6.heap.size) { data := #[105, 112, 118, 52] } { data := #[117, 100, 112] } 18 38 ?mx2 HG2.out ?mn2 KB.out.size ?_); (case mg2 => rfl); (case mo2 => rfl); (case ms2 => rfl); (case mx2 => rfl); (case mn2 => omega)))
      intro x8 V8 oz gz
      replace K := Lib.hid (below_grown K.out LR.out qB K.out.size gz)
      replace KB := Lib.hid (below_grown KB.out LR.out (Nat.le_refl _) KB.out.size gz)
      replace LR := Lib.hid oz
      clear oz gz
      go_wp2_with fail
      refine (CN.out _ _ (RC.out.below KB.out)).mono ?_
      rintro e V9 ⟨x9, rfl, hx, hy⟩
      replace K := Lib.hid (K.out.trans (hy.mono K.out.size))
      replace KB := Lib.hid (KB.out.trans (hy.mono KB.out.size))
      replace LR := Lib.hid (row_under2 LR.out hy)
      have X9 := Lib.hid (RL.own hx)
      clear hx
      clear hy
      go_wp2_with fail
      refine (same_any x9 _ [(0, 0), (1, 14), (2, 18), (5, 38)] _ X9.out (RL.own (show _ from LR.out)) (by decide) (by simp)).mono ?_
      rintro e V10 ⟨rfl, hy⟩
      replace K := Lib.hid (K.out.trans (hy.mono K.out.size))
      replace KB := Lib.hid (KB.out.trans (hy.mono KB.out.size))
      replace LR := Lib.hid (row_under2 LR.out hy)
      clear hy
      go_wp2_with fail
      refine (awake_any _).mono ?_
      rintro e V11 ⟨rfl, hy⟩
      replace K := Lib.hid (K.out.trans (hy.mono K.out.size))
      replace KB := Lib.hid (KB.out.trans (hy.mono KB.out.size))
      replace LR := Lib.hid (row_under2 LR.out hy)
      clear hy
      go_wp2
      go_ret
      exact ⟨rfl, K.out⟩

set_option maxRecDepth 100000 in
set_option maxHeartbeats 4000000 in
theorem lay_ttf (n : Int) (cut : Int) (w : World) :
    Calls Try.prog 6 #[.int .i64 n, .bool true, .bool false, .bool true, .int .i64 cut] w fun e w' => e = .returned (.bool true) ∧ Below w.heap.size w w' := by
  obtain ⟨u, hu⟩ : ∃ u, u = (n % 1073741824).toNat := ⟨_, rfl⟩
  have CK := Lib.hid (fun W => flow_any n true false W)
  rw [← hu] at CK
  have CB := Lib.hid (show ∀ W z, Rd W (.slice (some z) 3 3) (nus .u8 [97, 98, 99]) → _ from fun W z (h : Rd W (.slice (some z) 3 3) (nus .u8 [97, 98, 99])) => fB8_any u true false 0 0 (some z) 3 3 [97, 98, 99] true false W h rfl (by intro e; cases e) (by decide) (by omega) (by omega) (by omega))
  have T := fB8_told u true false 0 [97, 98, 99] true false (List.replicate 0 0) (by decide)
  have hlt := fB8_lt u true false 0 [97, 98, 99] true false 0 (by omega) (by decide)
  have hC := fun k hk => (cut8 true (sV u) dV (pr false) (1000 + u % 50000) 80 0 [97, 98, 99] true false (List.replicate 0 0) (pr_or false) (sV_len u) dV_len (by decide) k hk).2
  rw [show frR true (sV u) dV (pr false) (1000 + u % 50000) 80 0 [97, 98, 99] true false (List.replicate 0 0) = fB8 u true false 0 [97, 98, 99] true false (List.replicate 0 0) from rfl] at hC
  generalize fB8 u true false 0 [97, 98, 99] true false (List.replicate 0 0) = F at *
  have hlen : F.length = 81 := T.len
  have hly : lys F = [(0, 0), (1, 14), (3, 18), (4, 58)] := T.ly
  obtain ⟨kk, hk, hk2⟩ : ∃ k : Nat, cut % 82 = (k : Int) ∧ k ≤ 81 := ⟨(cut % 82).toNat, by omega, by omega⟩
  have hA : kk < 18 → lys (F.take kk) = [] := fun h => (hC kk (show kk < 18 + 40 + (20 + 3) by omega)).trans (if_pos h)
  have hB : 18 ≤ kk → kk < 81 → lys (F.take kk) = [(0, 0), (1, 14)] := fun h h2 => (hC kk (show kk < 18 + 40 + (20 + 3) by omega)).trans (if_neg (show ¬ kk < 18 by omega))
  have hD : kk = 81 → lys (F.take kk) = [(0, 0), (1, 14), (3, 18), (4, 58)] := fun h => by rw [List.take_of_length_le (by omega)]; exact hly
  have CN := Lib.hid (fun W z (h : Rd W z (nus .u8 (F.take kk))) => names_any z (F.take kk) (-1) W h (fun c hc => hlt c (List.mem_of_mem_take hc)))
  rw [show cutL (lys (F.take kk)) (-1) = lys (F.take kk) from by unfold cutL; rw [if_neg (by omega)]] at CN
  rw [hlen] at CB
  have HFL := Lib.hid hlen
  have HKK := Lib.hid hk
  have HA := Lib.hid hA
  have HB := Lib.hid hB
  have HD := Lib.hid hD
  generalize flow u true false = kc at *
  clear T hlt hC hlen hly hA hB hD hu hk
  have kcv := fun (w : World) (C : Array Value) (n c : Nat) => Lib.run_convert_bytes_const (P := Try.prog) w 22 5 C n c Try.underlying22 Try.underlying5
  have K := Lib.hid (Below.refl w.heap.size w)
  go_enter Try.func6, Try.ntmps6
  go_wp2_with fail
  refine (CK.out _).mono ?_
  rintro e V1 ⟨rfl, hy⟩
  replace K := Lib.hid (K.out.trans (hy.mono K.out.size))
  clear hy
  have hal := (Below.refl V1.heap.size V1).alloc (Nat.le_refl _) (.cells #[Value.int .u8 97, .int .u8 98, .int .u8 99] 5 (3, 3 + 1))
  have RL0 := Lib.hid (show Rd (V1.alloc (.cells #[Value.int .u8 97, .int .u8 98, .int .u8 99] 5 (3, 3 + 1))) (.slice (some ⟨V1.heap.size, 0, none⟩) 3 3) (nus .u8 [97, 98, 99]) from rd_lit V1 .u8 5 [97, 98, 99] 3 (3, 4) rfl (by simp [maxLen]))
  go_wp2_with fail
  replace K := Lib.hid (K.out.trans (hal.mono K.out.size))
  clear hal kcv
  refine (CB.out _ _ RL0.out).mono ?_
  rintro e V2 ⟨gb, cb, rfl, ho, hy⟩
  replace K := Lib.hid (K.out.trans (hy.mono K.out.size))
  have RC := Lib.hid ((Rd.own ho).front kk (by rw [HFL.out]; exact hk2))
  have KB := Lib.hid (Below.refl V2.heap.size V2)
  have qB : w.heap.size ≤ V2.heap.size := K.out.size
  have hcc : (kk : Int) ≤ (cb : Int) := by
    obtain ⟨_, _, e1, h1, -⟩ := Rd.own ho
    simp only [Value.slice.injEq] at e1
    obtain ⟨-, -, rfl⟩ := e1
    rw [nus_length, HFL.out] at h1
    omega
  clear ho hy RL0 CB CK
  go_wp2_with fail
  refine (round_any cut 82 _ (by omega) (by omega)).mono ?_
  rintro e V3 ⟨rfl, rfl⟩
  rw [HKK.out]
  have qV := KB.out.size
  go_wp2_with (((with_reducible refine wpList_one_rec (o := ⟨some 32, .buildSlice 34 1 #[(0, Operand.tmp 31)], _, _, _, _⟩) ?lg11 34 46 (.tmp 31) ?lo11 { data := #[101, 116, 104, 101, 114] } 0 ?lx11 Try.underlying34 rec46 ?_); (case lg11 => rfl); (case lo11 => rfl); (case lx11 => rfl)))
  intro V4 hg11 hy hz11
  replace K := Lib.hid (K.out.trans (hy.mono K.out.size))
  replace KB := Lib.hid (KB.out.trans (hy.mono KB.out.size))
  clear hy hz11
  have HG11 := Lib.hid hg11
  clear hg11
  have LR := Lib.hid (own_rec (base := V2.heap.size) HG11.out qV)
  go_wp2_with (((with_reducible refine wpList_one_rec (o := ⟨some 36, .buildSlice 34 1 #[(0, Operand.tmp 35)], _, _, _, _⟩) ?lg12 34 46 (.tmp 35) ?lo12 { data := #[118, 108, 97, 110] } 14 ?lx12 Try.underlying34 rec46 ?_); (case lg12 => rfl); (case lo12 => rfl); (case lx12 => rfl)))
  intro V5 hg12 hy hz12
  replace K := Lib.hid (K.out.trans (hy.mono K.out.size))
  replace KB := Lib.hid (KB.out.trans (hy.mono KB.out.size))
  replace LR := Lib.hid (row_under2 LR.out hy)
  clear hy hz12
  have HG12 := Lib.hid hg12
  clear hg12
  go_wp2_with (((with_reducible refine wpList_app_rec (o := ⟨some 37, .call { callee := .builtin .append, args := #[Operand.tmp 34, Operand.tmp 36], argTypes := #[34, 34] }, _, _, _, _⟩) ?lg13 (.tmp 34) (.tmp 36) 34 46 ?lo13 Try.underlying34 rec46 V2.heap.size (.slice (some ⟨V2.heap.size, 0, none⟩) 1 1) 1 [.string { data := #[101, 116, 104, 101, 114] }, .int .i64 0] ?ls13 LR.out (V4.heap.size) { data := #[118, 108, 97, 110] } 14 ?lx13 HG12.out ?ln13 KB.out.size ?_); (case lg13 => rfl); (case lo13 => rfl); (case ls13 => rfl); (case lx13 => rfl); (case ln13 => omega)))
  intro x13 V6 oz gz
  replace K := Lib.hid (below_grown K.out LR.out qB K.out.size gz)
  replace KB := Lib.hid (below_grown KB.out LR.out (Nat.le_refl _) KB.out.size gz)
  replace LR := Lib.hid oz
  clear oz gz
  by_cases h1 : kk < 18
  case pos =>
    have hdk : decide ((kk : Int) < 18) = true := decide_eq_true (by omega)
    have hL := HA.out h1
    rw [hL] at CN
    clear h1 hL HA HB HD
    go_wp2_with fail
    refine (CN.out _ _ (RC.out.below KB.out)).mono ?_
    rintro e V7 ⟨x9, rfl, hx, hy⟩
    replace K := Lib.hid (K.out.trans (hy.mono K.out.size))
    replace KB := Lib.hid (KB.out.trans (hy.mono KB.out.size))
    replace LR := Lib.hid (row_under2 LR.out hy)
    obtain ⟨a9, c9, rfl⟩ := row_shape hx
    clear hx
    clear hy
    go_wp2_with fail
    refine (awake_any _).mono ?_
    rintro e V8 ⟨rfl, hy⟩
    replace K := Lib.hid (K.out.trans (hy.mono K.out.size))
    replace KB := Lib.hid (KB.out.trans (hy.mono KB.out.size))
    replace LR := Lib.hid (row_under2 LR.out hy)
    clear hy
    go_wp2
    go_ret
    exact ⟨rfl, K.out⟩
  case neg =>
    have hdk : decide ((kk : Int) < 18) = false := decide_eq_false (by omega)
    by_cases h2 : kk = 81
    case neg =>
      have hL := HB.out (by omega) (by omega)
      rw [hL] at CN
      have hke : ((kk : Int) == 81) = false := by rw [beq_eq_false_iff_ne]; omega
      clear h1 h2 hL HA HB HD
      go_wp2_with fail
      refine (CN.out _ _ (RC.out.below KB.out)).mono ?_
      rintro e V7 ⟨x9, rfl, hx, hy⟩
      replace K := Lib.hid (K.out.trans (hy.mono K.out.size))
      replace KB := Lib.hid (KB.out.trans (hy.mono KB.out.size))
      replace LR := Lib.hid (row_under2 LR.out hy)
      have X9 := Lib.hid (RL.own hx)
      clear hx
      clear hy
      go_wp2_with fail
      refine (same_any x9 _ [(0, 0), (1, 14)] _ X9.out (RL.own (show _ from LR.out)) (by decide) (by simp)).mono ?_
      rintro e V8 ⟨rfl, hy⟩
      replace K := Lib.hid (K.out.trans (hy.mono K.out.size))
      replace KB := Lib.hid (KB.out.trans (hy.mono KB.out.size))
      replace LR := Lib.hid (row_under2 LR.out hy)
      clear hy
      go_wp2_with fail
      refine (awake_any _).mono ?_
      rintro e V9 ⟨rfl, hy⟩
      replace K := Lib.hid (K.out.trans (hy.mono K.out.size))
      replace KB := Lib.hid (KB.out.trans (hy.mono KB.out.size))
      replace LR := Lib.hid (row_under2 LR.out hy)
      clear hy
      go_wp2
      go_ret
      exact ⟨rfl, K.out⟩
    case pos =>
      have hL := HD.out h2
      rw [hL] at CN
      have hke : ((kk : Int) == 81) = true := by rw [beq_iff_eq]; omega
      clear h1 h2 hL HA HB HD
      go_wp2_with (((with_reducible refine wpList_two_rec (o := ⟨some 65, .buildSlice 34 2 #[(0, Operand.tmp 59), (1, Operand.tmp 64)], _, _, _, _⟩) ?lg2 34 46 (.tmp 59) (.tmp 64) ?lo2 { data := #[105, 112, 118, 54] } { data := #[116, 99, 112] } 18 58 ?lx2 ?ly2 Try.underlying34 rec46 ?_); (case lg2 => rfl); (case lo2 => rfl); (case lx2 => rfl); (case ly2 => rfl)))
      intro V7 hg2x hy hz2x
      replace K := Lib.hid (K.out.trans (hy.mono K.out.size))
      replace KB := Lib.hid (KB.out.trans (hy.mono KB.out.size))
      replace LR := Lib.hid (row_under2 LR.out hy)
      clear hy hz2x
      have HG2 := Lib.hid hg2x
      clear hg2x
      go_wp2_with (((with_reducible refine wpList_app_two (o := ⟨some 66, .call { callee := .builtin .append, args := #[Operand.tmp 56, Operand.tmp 65], argTypes := #[34, 34] }, _, _, _, _⟩) ?mg2 (.tmp 56) (.tmp 65) 34 46 ?mo2 Try.underlying34 rec46 V2.heap.size x13 (1 + 1) ([.string { data := #[101, 116, 104, 101, 114] }, .int .i64 0] ++ [.string { data := #[118, 108, 97, 110] }, .int .i64 14]) ?ms2 LR.out (V6.heap.size) { data := #[105, 112, 118, 54] } { data := #[116, 99, 112] } 18 58 ?mx2 HG2.out ?mn2 KB.out.size ?_); (case mg2 => rfl); (case mo2 => rfl); (case ms2 => rfl); (case mx2 => rfl); (case mn2 => omega)))
      intro x8 V8 oz gz
      replace K := Lib.hid (below_grown K.out LR.out qB K.out.size gz)
      replace KB := Lib.hid (below_grown KB.out LR.out (Nat.le_refl _) KB.out.size gz)
      replace LR := Lib.hid oz
      clear oz gz
      go_wp2_with fail
      refine (CN.out _ _ (RC.out.below KB.out)).mono ?_
      rintro e V9 ⟨x9, rfl, hx, hy⟩
      replace K := Lib.hid (K.out.trans (hy.mono K.out.size))
      replace KB := Lib.hid (KB.out.trans (hy.mono KB.out.size))
      replace LR := Lib.hid (row_under2 LR.out hy)
      have X9 := Lib.hid (RL.own hx)
      clear hx
      clear hy
      go_wp2_with fail
      refine (same_any x9 _ [(0, 0), (1, 14), (3, 18), (4, 58)] _ X9.out (RL.own (show _ from LR.out)) (by decide) (by simp)).mono ?_
      rintro e V10 ⟨rfl, hy⟩
      replace K := Lib.hid (K.out.trans (hy.mono K.out.size))
      replace KB := Lib.hid (KB.out.trans (hy.mono KB.out.size))
      replace LR := Lib.hid (row_under2 LR.out hy)
      clear hy
      go_wp2_with fail
      refine (awake_any _).mono ?_
      rintro e V11 ⟨rfl, hy⟩
      replace K := Lib.hid (K.out.trans (hy.mono K.out.size))
      replace KB := Lib.hid (KB.out.trans (hy.mono KB.out.size))
      replace LR := Lib.hid (row_under2 LR.out hy)
      clear hy
      go_wp2
      go_ret
      exact ⟨rfl, K.out⟩

set_option maxRecDepth 100000 in
set_option maxHeartbeats 4000000 in
theorem lay_ttt (n : Int) (cut : Int) (w : World) :
    Calls Try.prog 6 #[.int .i64 n, .bool true, .bool true, .bool true, .int .i64 cut] w fun e w' => e = .returned (.bool true) ∧ Below w.heap.size w w' := by
  obtain ⟨u, hu⟩ : ∃ u, u = (n % 1073741824).toNat := ⟨_, rfl⟩
  have CK := Lib.hid (fun W => flow_any n true true W)
  rw [← hu] at CK
  have CB := Lib.hid (show ∀ W z, Rd W (.slice (some z) 3 3) (nus .u8 [97, 98, 99]) → _ from fun W z (h : Rd W (.slice (some z) 3 3) (nus .u8 [97, 98, 99])) => fB8_any u true true 0 0 (some z) 3 3 [97, 98, 99] true false W h rfl (by intro e; cases e) (by decide) (by omega) (by omega) (by omega))
  have T := fB8_told u true true 0 [97, 98, 99] true false (List.replicate 0 0) (by decide)
  have hlt := fB8_lt u true true 0 [97, 98, 99] true false 0 (by omega) (by decide)
  have hC := fun k hk => (cut8 true (sV u) dV (pr true) (1000 + u % 50000) 80 0 [97, 98, 99] true false (List.replicate 0 0) (pr_or true) (sV_len u) dV_len (by decide) k hk).2
  rw [show frR true (sV u) dV (pr true) (1000 + u % 50000) 80 0 [97, 98, 99] true false (List.replicate 0 0) = fB8 u true true 0 [97, 98, 99] true false (List.replicate 0 0) from rfl] at hC
  generalize fB8 u true true 0 [97, 98, 99] true false (List.replicate 0 0) = F at *
  have hlen : F.length = 69 := T.len
  have hly : lys F = [(0, 0), (1, 14), (3, 18), (5, 58)] := T.ly
  obtain ⟨kk, hk, hk2⟩ : ∃ k : Nat, cut % 70 = (k : Int) ∧ k ≤ 69 := ⟨(cut % 70).toNat, by omega, by omega⟩
  have hA : kk < 18 → lys (F.take kk) = [] := fun h => (hC kk (show kk < 18 + 40 + (8 + 3) by omega)).trans (if_pos h)
  have hB : 18 ≤ kk → kk < 69 → lys (F.take kk) = [(0, 0), (1, 14)] := fun h h2 => (hC kk (show kk < 18 + 40 + (8 + 3) by omega)).trans (if_neg (show ¬ kk < 18 by omega))
  have hD : kk = 69 → lys (F.take kk) = [(0, 0), (1, 14), (3, 18), (5, 58)] := fun h => by rw [List.take_of_length_le (by omega)]; exact hly
  have CN := Lib.hid (fun W z (h : Rd W z (nus .u8 (F.take kk))) => names_any z (F.take kk) (-1) W h (fun c hc => hlt c (List.mem_of_mem_take hc)))
  rw [show cutL (lys (F.take kk)) (-1) = lys (F.take kk) from by unfold cutL; rw [if_neg (by omega)]] at CN
  rw [hlen] at CB
  have HFL := Lib.hid hlen
  have HKK := Lib.hid hk
  have HA := Lib.hid hA
  have HB := Lib.hid hB
  have HD := Lib.hid hD
  generalize flow u true true = kc at *
  clear T hlt hC hlen hly hA hB hD hu hk
  have kcv := fun (w : World) (C : Array Value) (n c : Nat) => Lib.run_convert_bytes_const (P := Try.prog) w 22 5 C n c Try.underlying22 Try.underlying5
  have K := Lib.hid (Below.refl w.heap.size w)
  go_enter Try.func6, Try.ntmps6
  go_wp2_with fail
  refine (CK.out _).mono ?_
  rintro e V1 ⟨rfl, hy⟩
  replace K := Lib.hid (K.out.trans (hy.mono K.out.size))
  clear hy
  have hal := (Below.refl V1.heap.size V1).alloc (Nat.le_refl _) (.cells #[Value.int .u8 97, .int .u8 98, .int .u8 99] 5 (3, 3 + 1))
  have RL0 := Lib.hid (show Rd (V1.alloc (.cells #[Value.int .u8 97, .int .u8 98, .int .u8 99] 5 (3, 3 + 1))) (.slice (some ⟨V1.heap.size, 0, none⟩) 3 3) (nus .u8 [97, 98, 99]) from rd_lit V1 .u8 5 [97, 98, 99] 3 (3, 4) rfl (by simp [maxLen]))
  go_wp2_with fail
  replace K := Lib.hid (K.out.trans (hal.mono K.out.size))
  clear hal kcv
  refine (CB.out _ _ RL0.out).mono ?_
  rintro e V2 ⟨gb, cb, rfl, ho, hy⟩
  replace K := Lib.hid (K.out.trans (hy.mono K.out.size))
  have RC := Lib.hid ((Rd.own ho).front kk (by rw [HFL.out]; exact hk2))
  have KB := Lib.hid (Below.refl V2.heap.size V2)
  have qB : w.heap.size ≤ V2.heap.size := K.out.size
  have hcc : (kk : Int) ≤ (cb : Int) := by
    obtain ⟨_, _, e1, h1, -⟩ := Rd.own ho
    simp only [Value.slice.injEq] at e1
    obtain ⟨-, -, rfl⟩ := e1
    rw [nus_length, HFL.out] at h1
    omega
  clear ho hy RL0 CB CK
  go_wp2_with fail
  refine (round_any cut 70 _ (by omega) (by omega)).mono ?_
  rintro e V3 ⟨rfl, rfl⟩
  rw [HKK.out]
  have qV := KB.out.size
  go_wp2_with (((with_reducible refine wpList_one_rec (o := ⟨some 32, .buildSlice 34 1 #[(0, Operand.tmp 31)], _, _, _, _⟩) ?lg14 34 46 (.tmp 31) ?lo14 { data := #[101, 116, 104, 101, 114] } 0 ?lx14 Try.underlying34 rec46 ?_); (case lg14 => rfl); (case lo14 => rfl); (case lx14 => rfl)))
  intro V4 hg14 hy hz14
  replace K := Lib.hid (K.out.trans (hy.mono K.out.size))
  replace KB := Lib.hid (KB.out.trans (hy.mono KB.out.size))
  clear hy hz14
  have HG14 := Lib.hid hg14
  clear hg14
  have LR := Lib.hid (own_rec (base := V2.heap.size) HG14.out qV)
  go_wp2_with (((with_reducible refine wpList_one_rec (o := ⟨some 36, .buildSlice 34 1 #[(0, Operand.tmp 35)], _, _, _, _⟩) ?lg15 34 46 (.tmp 35) ?lo15 { data := #[118, 108, 97, 110] } 14 ?lx15 Try.underlying34 rec46 ?_); (case lg15 => rfl); (case lo15 => rfl); (case lx15 => rfl)))
  intro V5 hg15 hy hz15
  replace K := Lib.hid (K.out.trans (hy.mono K.out.size))
  replace KB := Lib.hid (KB.out.trans (hy.mono KB.out.size))
  replace LR := Lib.hid (row_under2 LR.out hy)
  clear hy hz15
  have HG15 := Lib.hid hg15
  clear hg15
  go_wp2_with (((with_reducible refine wpList_app_rec (o := ⟨some 37, .call { callee := .builtin .append, args := #[Operand.tmp 34, Operand.tmp 36], argTypes := #[34, 34] }, _, _, _, _⟩) ?lg16 (.tmp 34) (.tmp 36) 34 46 ?lo16 Try.underlying34 rec46 V2.heap.size (.slice (some ⟨V2.heap.size, 0, none⟩) 1 1) 1 [.string { data := #[101, 116, 104, 101, 114] }, .int .i64 0] ?ls16 LR.out (V4.heap.size) { data := #[118, 108, 97, 110] } 14 ?lx16 HG15.out ?ln16 KB.out.size ?_); (case lg16 => rfl); (case lo16 => rfl); (case ls16 => rfl); (case lx16 => rfl); (case ln16 => omega)))
  intro x16 V6 oz gz
  replace K := Lib.hid (below_grown K.out LR.out qB K.out.size gz)
  replace KB := Lib.hid (below_grown KB.out LR.out (Nat.le_refl _) KB.out.size gz)
  replace LR := Lib.hid oz
  clear oz gz
  by_cases h1 : kk < 18
  case pos =>
    have hdk : decide ((kk : Int) < 18) = true := decide_eq_true (by omega)
    have hL := HA.out h1
    rw [hL] at CN
    clear h1 hL HA HB HD
    go_wp2_with fail
    refine (CN.out _ _ (RC.out.below KB.out)).mono ?_
    rintro e V7 ⟨x9, rfl, hx, hy⟩
    replace K := Lib.hid (K.out.trans (hy.mono K.out.size))
    replace KB := Lib.hid (KB.out.trans (hy.mono KB.out.size))
    replace LR := Lib.hid (row_under2 LR.out hy)
    obtain ⟨a9, c9, rfl⟩ := row_shape hx
    clear hx
    clear hy
    go_wp2_with fail
    refine (awake_any _).mono ?_
    rintro e V8 ⟨rfl, hy⟩
    replace K := Lib.hid (K.out.trans (hy.mono K.out.size))
    replace KB := Lib.hid (KB.out.trans (hy.mono KB.out.size))
    replace LR := Lib.hid (row_under2 LR.out hy)
    clear hy
    go_wp2
    go_ret
    exact ⟨rfl, K.out⟩
  case neg =>
    have hdk : decide ((kk : Int) < 18) = false := decide_eq_false (by omega)
    by_cases h2 : kk = 69
    case neg =>
      have hL := HB.out (by omega) (by omega)
      rw [hL] at CN
      have hke : ((kk : Int) == 69) = false := by rw [beq_eq_false_iff_ne]; omega
      clear h1 h2 hL HA HB HD
      go_wp2_with fail
      refine (CN.out _ _ (RC.out.below KB.out)).mono ?_
      rintro e V7 ⟨x9, rfl, hx, hy⟩
      replace K := Lib.hid (K.out.trans (hy.mono K.out.size))
      replace KB := Lib.hid (KB.out.trans (hy.mono KB.out.size))
      replace LR := Lib.hid (row_under2 LR.out hy)
      have X9 := Lib.hid (RL.own hx)
      clear hx
      clear hy
      go_wp2_with fail
      refine (same_any x9 _ [(0, 0), (1, 14)] _ X9.out (RL.own (show _ from LR.out)) (by decide) (by simp)).mono ?_
      rintro e V8 ⟨rfl, hy⟩
      replace K := Lib.hid (K.out.trans (hy.mono K.out.size))
      replace KB := Lib.hid (KB.out.trans (hy.mono KB.out.size))
      replace LR := Lib.hid (row_under2 LR.out hy)
      clear hy
      go_wp2_with fail
      refine (awake_any _).mono ?_
      rintro e V9 ⟨rfl, hy⟩
      replace K := Lib.hid (K.out.trans (hy.mono K.out.size))
      replace KB := Lib.hid (KB.out.trans (hy.mono KB.out.size))
      replace LR := Lib.hid (row_under2 LR.out hy)
      clear hy
      go_wp2
      go_ret
      exact ⟨rfl, K.out⟩
    case pos =>
      have hL := HD.out h2
      rw [hL] at CN
      have hke : ((kk : Int) == 69) = true := by rw [beq_iff_eq]; omega
      clear h1 h2 hL HA HB HD
      go_wp2_with (((with_reducible refine wpList_two_rec (o := ⟨some 65, .buildSlice 34 2 #[(0, Operand.tmp 59), (1, Operand.tmp 64)], _, _, _, _⟩) ?lg2 34 46 (.tmp 59) (.tmp 64) ?lo2 { data := #[105, 112, 118, 54] } { data := #[117, 100, 112] } 18 58 ?lx2 ?ly2 Try.underlying34 rec46 ?_); (case lg2 => rfl); (case lo2 => rfl); (case lx2 => rfl); (case ly2 => rfl)))
      intro V7 hg2x hy hz2x
      replace K := Lib.hid (K.out.trans (hy.mono K.out.size))
      replace KB := Lib.hid (KB.out.trans (hy.mono KB.out.size))
      replace LR := Lib.hid (row_under2 LR.out hy)
      clear hy hz2x
      have HG2 := Lib.hid hg2x
      clear hg2x
      go_wp2_with (((with_reducible refine wpList_app_two (o := ⟨some 66, .call { callee := .builtin .append, args := #[Operand.tmp 56, Operand.tmp 65], argTypes := #[34, 34] }, _, _, _, _⟩) ?mg2 (.tmp 56) (.tmp 65) 34 46 ?mo2 Try.underlying34 rec46 V2.heap.size x16 (1 + 1) ([.string { data := #[101, 116, 104, 101, 114] }, .int .i64 0] ++ [.string { data := #[118, 108, 97, 110] }, .int .i64 14]) ?ms2 LR.out (V6.heap.size) { data := #[105, 112, 118, 54] } { data := #[117, 100, 112] } 18 58 ?mx2 HG2.out ?mn2 KB.out.size ?_); (case mg2 => rfl); (case mo2 => rfl); (case ms2 => rfl); (case mx2 => rfl); (case mn2 => omega)))
      intro x8 V8 oz gz
      replace K := Lib.hid (below_grown K.out LR.out qB K.out.size gz)
      replace KB := Lib.hid (below_grown KB.out LR.out (Nat.le_refl _) KB.out.size gz)
      replace LR := Lib.hid oz
      clear oz gz
      go_wp2_with fail
      refine (CN.out _ _ (RC.out.below KB.out)).mono ?_
      rintro e V9 ⟨x9, rfl, hx, hy⟩
      replace K := Lib.hid (K.out.trans (hy.mono K.out.size))
      replace KB := Lib.hid (KB.out.trans (hy.mono KB.out.size))
      replace LR := Lib.hid (row_under2 LR.out hy)
      have X9 := Lib.hid (RL.own hx)
      clear hx
      clear hy
      go_wp2_with fail
      refine (same_any x9 _ [(0, 0), (1, 14), (3, 18), (5, 58)] _ X9.out (RL.own (show _ from LR.out)) (by decide) (by simp)).mono ?_
      rintro e V10 ⟨rfl, hy⟩
      replace K := Lib.hid (K.out.trans (hy.mono K.out.size))
      replace KB := Lib.hid (KB.out.trans (hy.mono KB.out.size))
      replace LR := Lib.hid (row_under2 LR.out hy)
      clear hy
      go_wp2_with fail
      refine (awake_any _).mono ?_
      rintro e V11 ⟨rfl, hy⟩
      replace K := Lib.hid (K.out.trans (hy.mono K.out.size))
      replace KB := Lib.hid (KB.out.trans (hy.mono KB.out.size))
      replace LR := Lib.hid (row_under2 LR.out hy)
      clear hy
      go_wp2
      go_ret
      exact ⟨rfl, K.out⟩

theorem layers_walk (n : Int) (v udp tag : Bool) (cut : Int) (w : World) :
    Calls Try.prog 6 #[.int .i64 n, .bool v, .bool udp, .bool tag, .int .i64 cut] w fun e w' => e = .returned (.bool true) ∧ Below w.heap.size w w' := by
  cases tag <;> cases v <;> cases udp
  · exact lay_fff n cut w
  · exact lay_fft n cut w
  · exact lay_ftf n cut w
  · exact lay_ftt n cut w
  · exact lay_tff n cut w
  · exact lay_tft n cut w
  · exact lay_ttf n cut w
  · exact lay_ttt n cut w
end Go.Proofs.Ytopfbgoiehlhbaa

