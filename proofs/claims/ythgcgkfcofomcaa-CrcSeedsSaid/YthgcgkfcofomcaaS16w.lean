/- What the document fixes. -/
import Derived.Test.YthgcgkfcofomcaaS16e
import Derived.Lib.SlBytesConst
import Derived.LoopTactic
import Derived.Handy
namespace Go.Proofs.Ythgcgkfcofomcaa
open Go.RowKit Go.Lib

def nine : List Nat := [49, 50, 51, 52, 53, 54, 55, 56, 57]
theorem nine_1 : crcC 3988292384 0 nine = 3421780262 := by kernel_rfl
theorem nine_2 : crcC 2197175160 0 nine = 3808858755 := by kernel_rfl
theorem tab_1 : tabC 3988292384 1 = 1996959894 := by kernel_rfl
/-- A check that is known. -/
theorem of_is (p s r : Nat) (bs : List Nat) (hr : crcC p s bs = r) (hp : p < 4294967296) (hs : s < 4294967296) (v : Value) (hb : ∀ c ∈ bs, c < 256) (w : World) (hv : Rd w v (nus .u8 bs)) :
    Calls Try.prog 12 #[.agg (tcs (tabL p)), .int .u32 (s : Int), v] w fun e w' => e = .returned (.int .u32 ((r : Nat) : Int)) ∧ Below w.heap.size w w' := by
  rw [← hr]
  exact of_any p s hp hs v bs hb w hv
theorem nine_lt : ∀ c ∈ nine, c < 256 := by decide
set_option maxRecDepth 100000 in
set_option maxHeartbeats 400000 in
theorem awake_any (w : World) :
    Calls Try.prog 8 #[] w fun e w' => e = .returned (.bool true) ∧ Below w.heap.size w w' := by
  obtain ⟨ZL, hZL⟩ : ∃ Z, Z = List.replicate 256 0 := ⟨_, rfl⟩
  have z26 : ∀ W, (zeroValue 26).run Try.prog W = .ok (.agg (tcs ZL)) W := by rw [hZL]; exact zero26
  have hl : ZL.length = 256 := by rw [hZL]; exact List.length_replicate
  clear hZL
  have HL := Lib.hid hl
  have CK := Lib.hid known_any
  have CM := Lib.hid (fun W => make_any 3988292384 (by decide) W)
  have CM2 := Lib.hid (fun W => make_any 2197175160 (by decide) W)
  have F1 := Lib.hid (fun v W hv => of_is 3988292384 0 3421780262 nine nine_1 (by decide) (by decide) v nine_lt W hv)
  have F2 := Lib.hid (fun v W hv => of_is 2197175160 0 3808858755 nine nine_2 (by decide) (by decide) v nine_lt W hv)
  have F3 := Lib.hid (fun W => of_is 3988292384 7 7 [] (crcC_nil _ _) (by decide) (by decide) (.slice none 0 0) (by simp) W (rd_nil W .u8))
  have TA := Lib.hid (show (tcs (tabL 3988292384))[1]? = some (.int .u32 1996959894) from by rw [tcs_at _ 1 (by rw [tabL_len]; decide), tabL_at _ _ (by decide), tab_1]; rfl)
  have SZ := Lib.hid (tabL_len 3988292384)
  have kc := fun (w : World) (C : Array Value) (n c : Nat) => Lib.run_convert_bytes_const (P := Try.prog) w 23 5 C n c Try.underlying23 Try.underlying5
  generalize tabL 3988292384 = T1 at *
  generalize tabL 2197175160 = T2 at *
  go_enter Try.func8, Try.ntmps8
  go_wp2_with fail
  refine (CK.out w).mono ?_
  rintro e V1 ⟨rfl, hB, hK⟩
  have c0 : V1.cell? ⟨w.heap.size, 0, none⟩ = some (.int .u32 3988292384) := hB.cell 0
  have K := Lib.hid hK
  have B := Lib.hid hB
  clear hB hK
  go_wp2_with fail
  refine (CM.out V1).mono ?_
  rintro e V2 ⟨rfl, hy⟩
  have hS : Hid ((tcs T1).size = (tcs ZL).size) := by show _ = _; rw [tcs_size, tcs_size, SZ.out, HL.out]
  have hI := Lib.hid (info26 T1 SZ.out)
  have hO := Lib.hid (tcs_one T1)
  have hal := (Below.refl V2.heap.size V2).alloc (Nat.le_refl _) (.cells (tcs ZL) 26)
  replace B := Lib.hid (B.out.below hy B.out.lt)
  replace K := Lib.hid (K.out.trans (hy.mono K.out.size))
  have sz1 := B.out.lt
  have N0 := Lib.hid (Blk.new V2 26 (tcs ZL))
  replace B := Lib.hid (B.out.below hal B.out.lt)
  replace K := Lib.hid (K.out.trans (hal.mono K.out.size))
  clear hy hal c0
  go_wp2_with ((with_reducible refine wpList_blk_store (op := ⟨none, .store 26 (.tmp 2) (.tmp 10), _, _, _, _⟩) ?sg1 26 (.tmp 2) (.tmp 10) ?so1 (V2.heap.size) (tcs T1) ?sx1 ?sy1 N0.out hS.out hI.out hO.out ?_); (case sg1 => rfl); (case so1 => rfl); (case sx1 => rfl); (case sy1 => rfl))
  intro V3 hA hF hW
  replace B := Lib.hid (show Blk _ _ _ _ from (hF _ (by omega)).trans B.out)
  replace K := Lib.hid (K.out.trans (hW _ (by omega)))
  have N := Lib.hid hA
  clear hA hF hW N0 hS
  generalize V2.heap.size = g2 at *
  have L1 := Lib.hid (run_blk_load (P := Try.prog) 26 g2 _ N.out Try.underlying26 rfl hI.out)
  have hal := (Below.refl V3.heap.size V3).alloc (Nat.le_refl _) (.cells (nus .u8 nine).toArray 5 (9, 10))
  have R1 := Lib.hid (rd_lit V3 .u8 5 nine 9 (9, 10) rfl (by simp [maxLen]))
  replace B := Lib.hid (B.out.below hal B.out.lt)
  replace N := Lib.hid (N.out.below hal N.out.lt)
  replace K := Lib.hid (K.out.trans (hal.mono K.out.size))
  clear hal
  go_wp2_with ((with_reducible refine wpList_load_want (op := ⟨some 11, .load 26 (.tmp 2), _, _, _, _⟩) ?wg2 26 (.tmp 2) ?wo2 ⟨g2, 0, none⟩ ?wx2 (.agg (tcs T1)) L1.out ?_); (case wg2 => rfl); (case wo2 => rfl); (case wx2 => rfl))
  refine (F1.out _ _ R1.out).mono ?_
  rintro e V4 ⟨rfl, hy⟩
  replace B := Lib.hid (B.out.below hy B.out.lt)
  replace N := Lib.hid (N.out.below hy N.out.lt)
  replace K := Lib.hid (K.out.trans (hy.mono K.out.size))
  clear hy R1 L1
  have c1 : V4.cell? ⟨w.heap.size, 1, none⟩ = some (.int .u32 2197175160) := B.out.cell 1
  go_wp2_with fail
  refine (CM2.out V4).mono ?_
  rintro e V5 ⟨rfl, hy⟩
  clear B c1
  replace N := Lib.hid (N.out.below hy N.out.lt)
  replace K := Lib.hid (K.out.trans (hy.mono K.out.size))
  clear hy
  have hal := (Below.refl V5.heap.size V5).alloc (Nat.le_refl _) (.cells (nus .u8 nine).toArray 5 (9, 10))
  have R2 := Lib.hid (rd_lit V5 .u8 5 nine 9 (9, 10) rfl (by simp [maxLen]))
  replace N := Lib.hid (N.out.below hal N.out.lt)
  replace K := Lib.hid (K.out.trans (hal.mono K.out.size))
  clear hal
  go_wp2_with fail
  refine (F2.out _ _ R2.out).mono ?_
  rintro e V6 ⟨rfl, hy⟩
  replace N := Lib.hid (N.out.below hy N.out.lt)
  replace K := Lib.hid (K.out.trans (hy.mono K.out.size))
  clear hy R2
  have c2 := (N.out.cell 1).trans TA.out
  have L2 := Lib.hid (run_blk_load (P := Try.prog) 26 g2 _ N.out Try.underlying26 rfl hI.out)
  go_wp2_with ((with_reducible refine wpList_load_want (op := ⟨some 32, .load 26 (.tmp 2), _, _, _, _⟩) ?wg3 26 (.tmp 2) ?wo3 ⟨g2, 0, none⟩ ?wx3 (.agg (tcs T1)) L2.out ?_); (case wg3 => rfl); (case wo3 => rfl); (case wx3 => rfl))
  refine (F3.out V6).mono ?_
  rintro e V7 ⟨rfl, hy⟩
  replace N := Lib.hid (N.out.below hy N.out.lt)
  replace K := Lib.hid (K.out.trans (hy.mono K.out.size))
  clear hy L2 c2
  go_wp2
  go_ret
  exact ⟨rfl, K.out⟩
end Go.Proofs.Ythgcgkfcofomcaa
