/- addr.parseV4. -/
import Derived.Test.YtjcmidgeddhfoaaDoorAC
import Derived.Test.YtjcmidgeddhfoaaDoorBlk
import Derived.LoopTactic
import Derived.Laws.Rows
import Derived.Handy
namespace Go.Proofs.YtjcmidgeddhfoaaDoor
open Go.RowKit Go.Lib

/-- An address's seventeen cells. -/
def cellsA (v : Bool) (bs : List Nat) : Array Value := (Value.bool v :: bs.map fun n : Nat => Value.int .u8 (n : Int)).toArray
/-- An address. -/
def adr (v : Bool) (bs : List Nat) : Value := .agg (cellsA v bs)
/-- What stands in the bytes. -/
def six4 : Option (List Nat) → List Nat
  | some ns => ns ++ List.replicate 12 0
  | none => List.replicate 16 0
theorem cellsA_size (v : Bool) (bs : List Nat) : (cellsA v bs).size = bs.length + 1 := by simp [cellsA]
theorem cellsA_all (v : Bool) (bs : List Nat) : (cellsA v bs).all (·.oneCell') = true :=
  Array.all_eq_true_iff_forall_mem.2 (by
    intro x hx
    simp [cellsA] at hx
    rcases hx with rfl | ⟨n, _, rfl⟩ <;> rfl)
theorem cellsA_get (v : Bool) (bs : List Nat) (i : Nat) (h : i < bs.length) : (cellsA v bs)[1 + i]? = some (.int .u8 ((bs.getD i 0 : Nat) : Int)) := by
  simp [cellsA, Nat.add_comm 1 i, h]
theorem cellsA_set (v : Bool) (bs : List Nat) (i n : Nat) : (cellsA v bs).setIfInBounds (1 + i) (.int .u8 (n : Int)) = cellsA v (bs.set i n) := by
  simp [cellsA, Nat.add_comm 1 i, List.map_set]
theorem set_zeros (ns : List Nat) (m n : Nat) (h : 0 < m) : (ns ++ List.replicate m 0).set ns.length n = (ns ++ [n]) ++ List.replicate (m - 1) 0 := by
  obtain ⟨q, rfl⟩ : ∃ q, m = q + 1 := ⟨m - 1, by omega⟩
  rw [List.set_append_right _ _ (Nat.le_refl _), Nat.sub_self]
  simp [List.replicate_succ]

theorem zeros_get (ns : List Nat) (m k : Nat) (hk : ns.length = k) : (ns ++ List.replicate m 0).getD k 0 = 0 := by
  rw [List.getD_eq_getElem?_getD, List.getElem?_append_right (by omega), List.getElem?_replicate]
  split <;> rfl

theorem cut_list (l : List UInt8) (w : World) (hl : l.length ≤ 140737488355328) :
    Calls Tryd.prog 22 #[.string ⟨l.toArray⟩, .string ⟨#[46]⟩] w fun e w' => e = .returned (.tuple #[.string ⟨(cut46 l).1.toArray⟩, .string ⟨(cut46 l).2.1.toArray⟩, .bool (cut46 l).2.2]) ∧ Below w.heap.size w w' := by
  simpa using cut_any ⟨l.toArray⟩ w hl
theorem cut46_le (l : List UInt8) : (cut46 l).1.length ≤ l.length ∧ (cut46 l).2.1.length ≤ l.length := by
  have h := cut46_back l
  split at h
  · have := congrArg List.length h
    simp at this
    omega
  · rw [h.1, h.2]; simp

theorem i24 : (Tryd.prog.info? 24).map (·.size) = some 17 := by kernel_rfl

/-- What holds at the head of each round: so many numbers are read, and lie in the block. -/
structure In4 (w : World) (n0 : Nat) (R : Option (List Nat)) (k : Nat) (l : List UInt8) (ns : List Nat) (wr : World) : Prop where
  k4 : k ≤ 4
  len : ns.length = k
  lt : ∀ n ∈ ns, n < 256
  room : l.length ≤ n0
  rest : R = (parse4 (4 - k) l).map (ns ++ ·)
  out : Blk wr w.heap.size 24 (cellsA false (List.replicate 16 0))
  own : Blk wr (w.heap.size + 1) 24 (cellsA false (ns ++ List.replicate (16 - k) 0))
  low : Below w.heap.size w wr

set_option maxRecDepth 100000 in
set_option maxHeartbeats 2000000 in
theorem v4_parse (s : ByteArray) (w : World) (hs : s.size ≤ 140737488355328) (hE : Env w) :
    Calls Tryd.prog 16 #[.string s] w fun e w' => e = .returned (.tuple #[adr false (six4 (parse4 4 s.data.toList)), .bool (parse4 4 s.data.toList).isSome]) ∧ Below w.heap.size w w' := by
  obtain ⟨R, hR⟩ : ∃ R, R = parse4 4 s.data.toList := ⟨_, rfl⟩
  rw [← hR]
  have hstart : In4 w s.size R 0 s.data.toList [] ((w.alloc (.cells (cellsA false (List.replicate 16 0)) 24)).alloc (.cells (cellsA false (List.replicate 16 0)) 24)) :=
    ⟨by omega, rfl, by simp, by simp, by rw [hR]; simp, (Blk.new _ _ _).alloc _, by have := Blk.new (w.alloc (.cells (cellsA false (List.replicate 16 0)) 24)) 24 (cellsA false (List.replicate 16 0)); simpa using this,
      ((Below.refl _ w).alloc (Nat.le_refl _) _).alloc (by simp) _⟩
  have H0 := Lib.hid hstart
  have HE := Lib.hid hE
  clear hR hE hstart
  go_enter Tryd.func16, Tryd.ntmps16
  go_wp2
  go_loopw [0, 11] (fun s0 i wr => ∃ (k : Nat) (l : List UInt8) (ns : List Nat), s0 = .string ⟨l.toArray⟩ ∧ i = .int .i64 k ∧ Hid (In4 w s.size R k l ns wr)) (fun _ i _ => 4 - (RowKit.intOf i).toNat)
  case atStart => exact ⟨0, s.data.toList, [], by simp, rfl, H0⟩
  case round =>
    obtain ⟨k, l, ns, rfl, rfl, hI⟩ := hrel
    have hk4 := hI.out.k4
    by_cases hlt : k < 4
    · have hroom := hI.out.room
      have C := Lib.hid (cut_list l wr (by omega))
      have hle := cut46_le l
      obtain ⟨c1, hc1⟩ : ∃ c, c = (cut46 l).1 := ⟨_, rfl⟩
      obtain ⟨c2, hc2⟩ : ∃ c, c = (cut46 l).2.1 := ⟨_, rfl⟩
      obtain ⟨m, hm⟩ : ∃ c, c = (cut46 l).2.2 := ⟨_, rfl⟩
      rw [← hc1, ← hc2] at hle
      rw [← hc1, ← hc2, ← hm] at C
      obtain ⟨hle1, hle2⟩ := hle
      have H1 := Lib.hid hc1
      have H2 := Lib.hid hc2
      have HM := Lib.hid hm
      clear hc1 hc2 hm
      go_wp2_with fail
      refine C.out.mono ?_
      rintro e w1 ⟨rfl, hb1⟩
      have HB1 := Lib.hid hb1
      clear C hb1
      go_wp2_with fail
      have hpr : parse4 (4 - k) l = match byteOf c1 with
          | none => none
          | some n => if m = decide (0 < 3 - k) then (parse4 (3 - k) c2).map (n :: ·) else none := by
        rw [H1.out, H2.out, HM.out, show 4 - k = (3 - k) + 1 by omega]
        rfl
      have HP := Lib.hid hpr
      clear hpr
      rcases hbo : byteOf c1 with _ | n
      · have P := Lib.hid (pb_no ⟨c1.toArray⟩ (show c1.length ≤ _ by omega) (by simpa using hbo) w1 ((HE.out.below hI.out.low).below HB1.out))
        have HBO := Lib.hid hbo
        clear hbo
        refine P.out.mono ?_
        rintro e w2 ⟨rfl, hb2⟩
        have HB2 := Lib.hid hb2
        clear hb2 P
        have hbl := hI.out.low.trans ((HB1.out.trans (HB2.out.mono HB1.out.size)).mono hI.out.low.size)
        have hO := (hI.out.out.below HB1.out hI.out.out.lt).below HB2.out (Nat.lt_of_lt_of_le hI.out.out.lt HB1.out.size)
        have HBL := Lib.hid hbl
        clear hbl
        have HO := Lib.hid hO
        clear hO
        go_wp2_with ((refine wpList_blk_store (op := ⟨none, .store 24 (.tmp 2) (.tmp 33), _, _, _, _⟩) rfl 24 (.tmp 2) (.tmp 33) rfl w.heap.size (cellsA false (List.replicate 16 0)) (by rfl) (by rfl) HO.out rfl (by kernel_rfl) (cellsA_all _ _) ?_))
        intro w3 hA hF hB
        have HF := Lib.hid hF
        have HA := Lib.hid hA
        clear hF hA
        go_wp2
        have hrun := run_blk_load (P := Tryd.prog) 24 w.heap.size _ HA.out Tryd.underlying24 rfl (by kernel_rfl)
        refine bodyPost_ret (results_cell_tmp 2 24 3 w.heap.size _ Tryd.results16 rfl hrun) rfl ⟨?_, HBL.out.trans (hB _ (Nat.le_refl _))⟩
        rw [show R = none from by rw [hI.out.rest, HP.out, HBO.out]; rfl]
        rfl
      · obtain ⟨hn, _⟩ := byteOf_some hbo
        have P := Lib.hid (pb_yes ⟨c1.toArray⟩ n (show c1.length ≤ _ by omega) (by simpa using hbo) w1 ((HE.out.below hI.out.low).below HB1.out))
        have HBO := Lib.hid hbo
        clear hbo
        refine P.out.mono ?_
        rintro e w2 ⟨rfl, hb2⟩
        have HB2 := Lib.hid hb2
        clear hb2 P
        have hbl := hI.out.low.trans ((HB1.out.trans (HB2.out.mono HB1.out.size)).mono hI.out.low.size)
        have hO := (hI.out.out.below HB1.out hI.out.out.lt).below HB2.out (Nat.lt_of_lt_of_le hI.out.out.lt HB1.out.size)
        have hW := (hI.out.own.below HB1.out hI.out.own.lt).below HB2.out (Nat.lt_of_lt_of_le hI.out.own.lt HB1.out.size)
        have HBL := Lib.hid hbl
        have HO := Lib.hid hO
        have HW := Lib.hid hW
        clear hbl hO hW
        rcases (show (k < 3 ∧ m = true) ∨ (¬ k < 3 ∧ m = false) ∨ (k < 3 ∧ m = false) ∨ (¬ k < 3 ∧ m = true) by cases m <;> simp <;> omega) with ⟨h3, rfl⟩ | ⟨h3, rfl⟩ | ⟨h3, rfl⟩ | ⟨h3, rfl⟩
        · have d3 : decide ((k : Int) < 3) = true := decide_eq_true (by omega)
          have hcell := (HW.out.cell (1 + k)).trans (cellsA_get false _ k (by simp [hI.out.len]; omega))
          rw [zeros_get ns _ k hI.out.len] at hcell
          have hfz := HW.out.frozen (1 + k)
          go_wp2
          go_roundw
          case rel =>
            refine ⟨k + 1, c2, ns ++ [n], rfl, by go_num, Lib.hid ?_⟩
            have hset : Blk (w2.setCell ⟨w.heap.size + 1, 1 + k, none⟩ (.int .u8 (n : Int))) (w.heap.size + 1) 24 (cellsA false ((ns ++ [n]) ++ List.replicate (16 - (k + 1)) 0)) := by
              have h := HW.out.set_ (1 + k) (.int .u8 (n : Int))
              rw [cellsA_set, show k = ns.length from hI.out.len.symm, set_zeros ns _ n (by have := hI.out.len; omega)] at h
              rw [show 16 - (k + 1) = 16 - ns.length - 1 by have := hI.out.len; omega, show k = ns.length from hI.out.len.symm]
              exact h
            exact ⟨by omega, by simp [hI.out.len], by
                intro x hx
                rcases List.mem_append.1 hx with hx | hx
                · exact hI.out.lt x hx
                · simp at hx; omega,
              by omega, by
                rw [hI.out.rest, HP.out, HBO.out]
                show Option.map _ (if _ = decide (0 < 3 - k) then _ else _) = _
                rw [if_pos (by simp; omega), show 4 - (k + 1) = 3 - k by omega, Option.map_map]
                congr 1
                funext x
                simp,
              HO.out.far (by simp) _, hset, HBL.out.setCell (by simp) _⟩
          case measure => simp [RowKit.intOf]; omega
        · have d3 : decide ((k : Int) < 3) = false := decide_eq_false (by omega)
          have hcell := (HW.out.cell (1 + k)).trans (cellsA_get false _ k (by simp [hI.out.len]; omega))
          rw [zeros_get ns _ k hI.out.len] at hcell
          have hfz := HW.out.frozen (1 + k)
          go_wp2
          go_roundw
          case rel =>
            refine ⟨k + 1, c2, ns ++ [n], rfl, by go_num, Lib.hid ?_⟩
            have hset : Blk (w2.setCell ⟨w.heap.size + 1, 1 + k, none⟩ (.int .u8 (n : Int))) (w.heap.size + 1) 24 (cellsA false ((ns ++ [n]) ++ List.replicate (16 - (k + 1)) 0)) := by
              have h := HW.out.set_ (1 + k) (.int .u8 (n : Int))
              rw [cellsA_set, show k = ns.length from hI.out.len.symm, set_zeros ns _ n (by have := hI.out.len; omega)] at h
              rw [show 16 - (k + 1) = 16 - ns.length - 1 by have := hI.out.len; omega, show k = ns.length from hI.out.len.symm]
              exact h
            exact ⟨by omega, by simp [hI.out.len], by
                intro x hx
                rcases List.mem_append.1 hx with hx | hx
                · exact hI.out.lt x hx
                · simp at hx; omega,
              by omega, by
                rw [hI.out.rest, HP.out, HBO.out]
                show Option.map _ (if _ = decide (0 < 3 - k) then _ else _) = _
                rw [if_pos (by simp; omega), show 4 - (k + 1) = 3 - k by omega, Option.map_map]
                congr 1
                funext x
                simp,
              HO.out.far (by simp) _, hset, HBL.out.setCell (by simp) _⟩
          case measure => simp [RowKit.intOf]; omega
        · have d3 : decide ((k : Int) < 3) = true := decide_eq_true (by omega)
          go_wp2_with ((refine wpList_blk_store (op := ⟨none, .store 24 (.tmp 2) (.tmp 33), _, _, _, _⟩) rfl 24 (.tmp 2) (.tmp 33) rfl w.heap.size (cellsA false (List.replicate 16 0)) (by rfl) (by rfl) HO.out rfl (by kernel_rfl) (cellsA_all _ _) ?_))
          intro w3 hA hF hB
          have HF := Lib.hid hF
          have HA := Lib.hid hA
          clear hF hA
          go_wp2
          have hrun := run_blk_load (P := Tryd.prog) 24 w.heap.size _ HA.out Tryd.underlying24 rfl (by kernel_rfl)
          refine bodyPost_ret (results_cell_tmp 2 24 3 w.heap.size _ Tryd.results16 rfl hrun) rfl ⟨?_, HBL.out.trans (hB _ (Nat.le_refl _))⟩
          rw [show R = none from by
            rw [hI.out.rest, HP.out, HBO.out]
            show Option.map _ (if _ = decide (0 < 3 - k) then _ else _) = _
            rw [if_neg (by simp; omega)]
            rfl]
          rfl
        · have d3 : decide ((k : Int) < 3) = false := decide_eq_false (by omega)
          go_wp2_with ((refine wpList_blk_store (op := ⟨none, .store 24 (.tmp 2) (.tmp 33), _, _, _, _⟩) rfl 24 (.tmp 2) (.tmp 33) rfl w.heap.size (cellsA false (List.replicate 16 0)) (by rfl) (by rfl) HO.out rfl (by kernel_rfl) (cellsA_all _ _) ?_))
          intro w3 hA hF hB
          have HF := Lib.hid hF
          have HA := Lib.hid hA
          clear hF hA
          go_wp2
          have hrun := run_blk_load (P := Tryd.prog) 24 w.heap.size _ HA.out Tryd.underlying24 rfl (by kernel_rfl)
          refine bodyPost_ret (results_cell_tmp 2 24 3 w.heap.size _ Tryd.results16 rfl hrun) rfl ⟨?_, HBL.out.trans (hB _ (Nat.le_refl _))⟩
          rw [show R = none from by
            rw [hI.out.rest, HP.out, HBO.out]
            show Option.map _ (if _ = decide (0 < 3 - k) then _ else _) = _
            rw [if_neg (by simp; omega)]
            rfl]
          rfl
    · obtain rfl : k = 4 := by omega
      have hl := hI.out.len
      have hz : (cellsA false (ns ++ List.replicate 12 0)).size = 17 := by rw [cellsA_size, List.length_append, hl, List.length_replicate]
      have hO := hI.out.out
      have hW : Blk wr (w.heap.size + 1) 24 (cellsA false (ns ++ List.replicate 12 0)) := hI.out.own
      have hns : R = some ns := by rw [hI.out.rest]; simp [parse4]
      have HO := Lib.hid hO
      have HW := Lib.hid hW
      have HN := Lib.hid hns
      have HZ := Lib.hid (i24.trans (congrArg some hz.symm))
      have HZ2 := Lib.hid (hz.trans (cellsA_size false (List.replicate 16 0)).symm)
      clear hO hW hns hz hl
      generalize hcs : cellsA false (ns ++ List.replicate 12 0) = cs at HW HZ HZ2
      have HC := Lib.hid hcs
      have HAll := Lib.hid (show cs.all (·.oneCell') = true by rw [← hcs]; exact cellsA_all _ _)
      clear hcs
      go_wp2_with (first
        | (refine wpList_blk_load (op := ⟨some 40, .load 24 (.tmp 4), _, _, _, _⟩) rfl 24 (.tmp 4) rfl (w.heap.size + 1) (by rfl) _ HW.out Tryd.underlying24 rfl HZ.out ?_)
        | (refine wpList_blk_store (op := ⟨none, .store 24 (.tmp 2) (.tmp 40), _, _, _, _⟩) rfl 24 (.tmp 2) (.tmp 40) rfl w.heap.size cs (by rfl) (by rfl) HO.out HZ2.out HZ.out HAll.out ?_))
      intro w3 hA hF hB
      have HF := Lib.hid hF
      have HA := Lib.hid hA
      clear hF hA
      go_wp2
      have hrun := run_blk_load (P := Tryd.prog) 24 w.heap.size _ HA.out Tryd.underlying24 rfl HZ.out
      refine bodyPost_ret (results_cell_tmp 2 24 3 w.heap.size _ Tryd.results16 rfl hrun) rfl ⟨?_, hI.out.low.trans (hB _ (Nat.le_refl _))⟩
      rw [HN.out, ← HC.out]
      rfl
end Go.Proofs.YtjcmidgeddhfoaaDoor
