/- Texts that the walks of this seat lean on, put together. -/
import Derived.LoopTactic
import Derived.Handy
import Derived.ProofKit
import Derived.OpenShut
import Derived.ChangeSame
import Derived.Deep.DeepHandedRow
import Derived.Lib.LaidTab
import Derived.Lib.LaidU8
import Derived.LaidSub
import Derived.Test.YthkaadcgiplolaaDoorTk
import Derived.Test.YthkaadcgiplolaaDoorCards
import Derived.Test.YthkaadcgiplolaaDoorM13
import Derived.Test.YthkaadcgiplolaaDoorM22
import Derived.Test.YthkaadcgiplolaaDoorM23
import Derived.Test.YthkaadcgiplolaaDoorM27
import Derived.Test.YthkaadcgiplolaaDoorM28
import Derived.Test.YthkaadcgiplolaaDoorM29
import Derived.Test.YthkaadcgiplolaaDoorM37
import Derived.Test.YthkaadcgiplolaaDoorTie
namespace Go.Proofs.YthkaadcgiplolaaDoor
open Go.RowKit Go.Lib
theorem text_adr (v : Bool) (bs : List Nat) (hl : bs.length = 16) (hb : ∀ n ∈ bs, n < 256) (w : World) (hE : Env w) :
    Calls Tryd.prog 46 #[adr v bs] w fun e w' => e = .returned (.string ⟨(textA v bs).toArray⟩) ∧ Below w.heap.size w w' := by
  obtain ⟨b0, b1, b2, b3, b4, b5, b6, b7, b8, b9, b10, b11, b12, b13, b14, b15, rfl⟩ := list16 bs hl
  cases v with
  | true => exact text_six b0 b1 b2 b3 b4 b5 b6 b7 b8 b9 b10 b11 b12 b13 b14 b15 hb w
  | false => exact text_four b0 b1 b2 b3 b4 b5 b6 b7 b8 b9 b10 b11 b12 b13 b14 b15 (fun n hn => hb n (List.mem_of_mem_take (i := 4) hn)) w hE
theorem textA_len (v : Bool) (bs : List Nat) (hl : bs.length = 16) (hb : ∀ n ∈ bs, n < 256) : (textA v bs).length ≤ 39 := by
  cases v with
  | true => exact Nat.le_of_eq (text6_length bs)
  | false =>
    have h := pre4_len bs 4 hb (by omega)
    have : (textA false bs).length ≤ 4 * 4 := h
    omega
theorem dec_len (n : Nat) (h : n < 65536) : (decDigits n).length ≤ 5 := by
  rw [decDigits_length]
  by_cases h1 : n < 10
  · rw [nDigits_small h1]; omega
  by_cases h2 : n < 100
  · rw [nDigits_unique 1 n (by omega) (by omega)]; omega
  by_cases h3 : n < 1000
  · rw [nDigits_unique 2 n (by omega) (by omega)]; omega
  by_cases h4 : n < 10000
  · rw [nDigits_unique 3 n (by omega) (by omega)]; omega
  · rw [nDigits_unique 4 n (by omega) (by omega)]; omega
def endT (v : Bool) (S : List Nat) (port : Nat) : List UInt8 := textA v S ++ 58 :: decDigits port
theorem endT_len (v : Bool) (S : List Nat) (port : Nat) (hl : S.length = 16) (hb : ∀ n ∈ S, n < 256) (hp : port < 65536) : (endT v S port).length ≤ 45 := by
  have h1 := textA_len v S hl hb
  have h2 := dec_len port hp
  unfold endT
  rw [List.length_append, List.length_cons]
  omega
theorem mk_size (l : List UInt8) : (⟨l.toArray⟩ : ByteArray).size = l.length := by simp [ByteArray.size]
set_option maxRecDepth 100000 in
set_option maxHeartbeats 1000000 in
theorem end_any (v : Bool) (S : List Nat) (port : Nat) (hl : S.length = 16) (hb : ∀ n ∈ S, n < 256) (hp : port < 65536) (w : World) (hE : Env w) :
    Calls Tryd.prog 37 #[adr v S, .int .u16 (port : Int)] w fun e w' => e = .returned (.string ⟨(endT v S port).toArray⟩) ∧ Below w.heap.size w w' := by
  have K := Lib.hid (Below.refl w.heap.size w)
  have HE := Lib.hid hE
  have CT := Lib.hid (fun W hW => text_adr v S hl hb W hW)
  have CI := Lib.hid (fun W hW => itoa_any port (by omega) W hW)
  have l1 := textA_len v S hl hb
  have l2 := dec_len port hp
  have IA : Hid ((Tryd.prog.info? 24).map (·.size) = some (cellsA v S).size) := i24.trans (congrArg some (by rw [cellsA_size, hl]))
  have HT : Hid ((⟨(textA v S).toArray⟩ : ByteArray) ++ ⟨#[58]⟩ ++ ⟨(decDigits port).toArray⟩ = ⟨(endT v S port).toArray⟩) := by
    show _ = _
    unfold endT
    apply ByteArray.ext
    simp
  have z1 : (⟨(textA v S).toArray⟩ : ByteArray).size ≤ 39 := by rw [mk_size]; exact l1
  have z2 : (⟨(decDigits port).toArray⟩ : ByteArray).size ≤ 5 := by rw [mk_size]; exact l2
  unfold adr at CT ⊢
  generalize (⟨(endT v S port).toArray⟩ : ByteArray) = R at *
  generalize (⟨(textA v S).toArray⟩ : ByteArray) = T at *
  generalize (⟨(decDigits port).toArray⟩ : ByteArray) = D at *
  generalize cellsA v S = SA at *
  have g1 : ¬ 9223372036854775807 < T.size + 1 := by omega
  have g2 : ¬ 9223372036854775807 < T.size + 1 + D.size := by omega
  have g3 : IntKind.i64.wrap (port : Int) = (port : Int) := by rw [IntKind.wrap_i64]; omega
  clear hl hb hp hE l1 l2 z1 z2
  go_enter Tryd.func37, Tryd.ntmps37
  have hal := (Below.refl w.heap.size w).alloc (Nat.le_refl _) (.cells SA 24)
  replace K := Lib.hid (K.out.trans (hal.mono K.out.size))
  have N := Lib.hid (Blk.new w 24 SA)
  clear hal
  have L1 : (loadVar 24 ⟨w.heap.size, 0, none⟩).run Tryd.prog (w.alloc (.cells SA 24)) = .ok (.agg SA) (w.alloc (.cells SA 24)) := run_blk_load (P := Tryd.prog) 24 (w.heap.size) _ N.out Tryd.underlying24 rfl IA.out
  replace L1 := Lib.hid L1
  go_wp2_with (((with_reducible refine wpList_load_want (op := ⟨some 5, .load 24 (.tmp 2), _, _, _, _⟩) ?wg1 24 (.tmp 2) ?wo1 ⟨w.heap.size, 0, none⟩ ?wx1 (.agg SA) L1.out ?_); (case wg1 => rfl); (case wo1 => rfl); (case wx1 => rfl)))
  clear L1
  have hzV1 : Hid ((w.alloc (.cells SA 24)).heap.size = w.heap.size + 1) := by show _ = _; simp only [World.size_alloc]
  generalize (w.alloc (.cells SA 24)) = V1 at *
  refine (CT.out V1 (HE.out.below K.out)).mono ?_
  rintro e V2 ⟨rfl, hy⟩
  replace K := Lib.hid (K.out.trans (hy.mono K.out.size))
  replace N := Lib.hid (N.out.below hy N.out.lt)
  clear hy
  go_wp2_with fail
  refine (CI.out V2 (HE.out.below K.out)).mono ?_
  rintro e V3 ⟨rfl, hy⟩
  replace K := Lib.hid (K.out.trans (hy.mono K.out.size))
  replace N := Lib.hid (N.out.below hy N.out.lt)
  clear hy
  go_wp2
  go_ret
  exact ⟨by rw [← HT.out]; rfl, K.out⟩
def tR (k : Fl) : List UInt8 := (pnB k.p).data.toList ++ 32 :: (endT k.sv k.S k.sp ++ 32 :: 62 :: 32 :: endT k.dv k.D k.dp)
def tK (k : Fl) : List UInt8 := if vK k then tR k else []
theorem pnB_size (p : Nat) : (pnB p).size = 3 := by unfold pnB; split <;> rfl
set_option maxRecDepth 100000 in
set_option maxHeartbeats 4000000 in
theorem ktext_no (k : Fl) (hk : k.Fit) (hv : vK k = false) (w : World)  :
    Calls Tryd.prog 19 #[.agg k.cs] w fun e w' => e = .returned (.string ⟨(tK k).toArray⟩) ∧ Below w.heap.size w w' := by
  have K := Lib.hid (Below.refl w.heap.size w)
  have CV := Lib.hid (fun W => kvalid_any k hk W)
  rw [hv] at CV
  rw [show tK k = [] from by unfold tK; rw [hv]; rfl]
  obtain ⟨a0, a1, a18, a35, a36⟩ := fl_get k hk
  have G0 := Lib.hid a0
  have G1 := Lib.hid a1
  have G18 := Lib.hid a18
  have G35 := Lib.hid a35
  have G36 := Lib.hid a36
  have KP1 := Lib.hid (fl_src k)
  have KP2 := Lib.hid (fl_dst k hk)
  have IS := Lib.hid (fl_is k hk)
  have ID := Lib.hid (fl_id k hk)
  have IK := Lib.hid (fl_ik k hk)
  clear a0 a1 a18 a35 a36
  generalize k.cs = kc at *
  generalize cellsA k.sv k.S = S at *
  generalize cellsA k.dv k.D = D at *
  generalize k.p = p at *
  generalize k.sv = sv at *
  generalize k.dv = dv at *
  generalize k.sp = sp at *
  generalize k.dp = dp at *
  clear hk hv
  go_enter Tryd.func19, Tryd.ntmps19
  have hal := (Below.refl w.heap.size w).alloc (Nat.le_refl _) (.cells kc 27)
  replace K := Lib.hid (K.out.trans (hal.mono K.out.size))
  have N := Lib.hid (Blk.new w 27 kc)
  clear hal
  have L2 : (loadVar 27 ⟨w.heap.size, 0, none⟩).run Tryd.prog (w.alloc (.cells kc 27)) = .ok (.agg kc) (w.alloc (.cells kc 27)) := run_blk_load (P := Tryd.prog) 27 (w.heap.size) _ N.out Tryd.underlying27 rfl IK.out
  replace L2 := Lib.hid L2
  go_wp2_with (((with_reducible refine wpList_load_want (op := ⟨some 3, .load 27 (.tmp 1), _, _, _, _⟩) ?wg2 27 (.tmp 1) ?wo2 ⟨w.heap.size, 0, none⟩ ?wx2 (.agg kc) L2.out ?_); (case wg2 => rfl); (case wo2 => rfl); (case wx2 => rfl)))
  clear L2
  have hzV1 : Hid ((w.alloc (.cells kc 27)).heap.size = w.heap.size + 1) := by show _ = _; simp only [World.size_alloc]
  generalize (w.alloc (.cells kc 27)) = V1 at *
  refine (CV.out V1).mono ?_
  rintro e V2 ⟨rfl, hy⟩
  replace K := Lib.hid (K.out.trans (hy.mono K.out.size))
  replace N := Lib.hid (N.out.below hy N.out.lt)
  clear hy
  go_wp2
  go_ret
  exact ⟨rfl, K.out⟩
set_option maxRecDepth 100000 in
set_option maxHeartbeats 4000000 in
theorem ktext_yes (k : Fl) (hk : k.Fit) (hv : vK k = true) (w : World) (hE : Env w) :
    Calls Tryd.prog 19 #[.agg k.cs] w fun e w' => e = .returned (.string ⟨(tK k).toArray⟩) ∧ Below w.heap.size w w' := by
  have K := Lib.hid (Below.refl w.heap.size w)
  have CV := Lib.hid (fun W => kvalid_any k hk W)
  rw [hv] at CV
  have HE := Lib.hid hE
  have CP := Lib.hid (fun W => protoName_any k.p W)
  have C1 := Lib.hid (fun W hW => end_any k.sv k.S k.sp hk.lS hk.bS hk.sp W hW)
  have C2 := Lib.hid (fun W hW => end_any k.dv k.D k.dp hk.lD hk.bD hk.dp W hW)
  have z0 := pnB_size k.p
  have z1 : (⟨(endT k.sv k.S k.sp).toArray⟩ : ByteArray).size ≤ 45 := by rw [mk_size]; exact endT_len _ _ _ hk.lS hk.bS hk.sp
  have z2 : (⟨(endT k.dv k.D k.dp).toArray⟩ : ByteArray).size ≤ 45 := by rw [mk_size]; exact endT_len _ _ _ hk.lD hk.bD hk.dp
  have HT : Hid (pnB k.p ++ ⟨#[32]⟩ ++ ⟨(endT k.sv k.S k.sp).toArray⟩ ++ ⟨#[32, 62, 32]⟩ ++ ⟨(endT k.dv k.D k.dp).toArray⟩ = ⟨(tK k).toArray⟩) := by
    show _ = _
    unfold tK
    rw [hv, if_pos rfl]
    unfold tR
    apply ByteArray.ext
    simp
  obtain ⟨a0, a1, a18, a35, a36⟩ := fl_get k hk
  have G0 := Lib.hid a0
  have G1 := Lib.hid a1
  have G18 := Lib.hid a18
  have G35 := Lib.hid a35
  have G36 := Lib.hid a36
  have KP1 := Lib.hid (fl_src k)
  have KP2 := Lib.hid (fl_dst k hk)
  have IS := Lib.hid (fl_is k hk)
  have ID := Lib.hid (fl_id k hk)
  have IK := Lib.hid (fl_ik k hk)
  clear a0 a1 a18 a35 a36
  unfold adr at C1 C2
  generalize (⟨(endT k.sv k.S k.sp).toArray⟩ : ByteArray) = E1 at *
  generalize (⟨(endT k.dv k.D k.dp).toArray⟩ : ByteArray) = E2 at *
  generalize (⟨(tK k).toArray⟩ : ByteArray) = R at *
  generalize pnB k.p = P0 at *
  have g1 : ¬ 9223372036854775807 < P0.size + 1 := by omega
  have g2 : ¬ 9223372036854775807 < P0.size + 1 + E1.size := by omega
  have g3 : ¬ 9223372036854775807 < P0.size + 1 + E1.size + 3 := by omega
  have g4 : ¬ 9223372036854775807 < P0.size + 1 + E1.size + 3 + E2.size := by omega
  generalize k.cs = kc at *
  generalize cellsA k.sv k.S = S at *
  generalize cellsA k.dv k.D = D at *
  generalize k.p = p at *
  generalize k.sv = sv at *
  generalize k.dv = dv at *
  generalize k.sp = sp at *
  generalize k.dp = dp at *
  clear hk hv hE z0 z1 z2
  go_enter Tryd.func19, Tryd.ntmps19
  have hal := (Below.refl w.heap.size w).alloc (Nat.le_refl _) (.cells kc 27)
  replace K := Lib.hid (K.out.trans (hal.mono K.out.size))
  have N := Lib.hid (Blk.new w 27 kc)
  clear hal
  have L3 : (loadVar 27 ⟨w.heap.size, 0, none⟩).run Tryd.prog (w.alloc (.cells kc 27)) = .ok (.agg kc) (w.alloc (.cells kc 27)) := run_blk_load (P := Tryd.prog) 27 (w.heap.size) _ N.out Tryd.underlying27 rfl IK.out
  replace L3 := Lib.hid L3
  go_wp2_with (((with_reducible refine wpList_load_want (op := ⟨some 3, .load 27 (.tmp 1), _, _, _, _⟩) ?wg3 27 (.tmp 1) ?wo3 ⟨w.heap.size, 0, none⟩ ?wx3 (.agg kc) L3.out ?_); (case wg3 => rfl); (case wo3 => rfl); (case wx3 => rfl)))
  clear L3
  have hzV1 : Hid ((w.alloc (.cells kc 27)).heap.size = w.heap.size + 1) := by show _ = _; simp only [World.size_alloc]
  generalize (w.alloc (.cells kc 27)) = V1 at *
  refine (CV.out V1).mono ?_
  rintro e V2 ⟨rfl, hy⟩
  replace K := Lib.hid (K.out.trans (hy.mono K.out.size))
  replace N := Lib.hid (N.out.below hy N.out.lt)
  clear hy
  go_wp2_with fail
  refine wp_region_held (S := (fun w' : World => Below (V2.heap.size) V2 w')) (by kernel_rfl) ?_
  change wpAnyH _ _ _ _ _ _ _ _ V2.drew
  have hy : Below V2.heap.size V2 V2.drew := (Below.refl _ _).drew
  have hE0 : Below (V2.heap.size) V2 V2.drew := (Below.refl _ _).drew
  clear hy
  generalize V2.drew = Y3x0 at hE0  ⊢
  have E0 := Lib.hid hE0
  clear hE0
  refine tkA 0 (?_) ?_ E0.out ?_
  rotate_left
  · (intro w1 hS; go_simp; try with_reducible rfl)
  simp only [Act.put, tS1, tS2, tS3]
  refine tkA 1 (?_) ?_ E0.out ?_
  rotate_left
  · (intro w1 hS; have hW := hS; have q := ((N.out.below hW N.out.lt).cell 0).trans G0.out; clear hW hS; go_simp; try with_reducible rfl)
  simp only [Act.put, tS1, tS2, tS3]
  refine tkA 4 (?_) ?_ E0.out ?_
  rotate_left
  · (intro w1 hS; go_simp; try with_reducible rfl)
  simp only [Act.put, tS1, tS2, tS3]
  refine tkA 5 (.agg S) ?_ E0.out ?_
  · (intro w1 hS; have hW := hS; exact exec_load 24 (.tmp 10) rfl _ rfl _ (by have h := run_part_load (P := Tryd.prog) 24 1 S.toList _ (N.out.below hW N.out.lt) KP1.out Tryd.underlying24 rfl IS.out; rwa [Array.toArray_toList] at h))
  simp only [Act.put, tS1, tS2, tS3]
  refine tkA 6 (?_) ?_ E0.out ?_
  rotate_left
  · (intro w1 hS; go_simp; try with_reducible rfl)
  simp only [Act.put, tS1, tS2, tS3]
  refine tkA 7 (?_) ?_ E0.out ?_
  rotate_left
  · (intro w1 hS; have hW := hS; have q := ((N.out.below hW N.out.lt).cell 35).trans G35.out; clear hW hS; go_simp; try with_reducible rfl)
  simp only [Act.put, tS1, tS2, tS3]
  refine tkA 11 (?_) ?_ E0.out ?_
  rotate_left
  · (intro w1 hS; go_simp; try with_reducible rfl)
  simp only [Act.put, tS1, tS2, tS3]
  refine tkA 12 (.agg D) ?_ E0.out ?_
  · (intro w1 hS; have hW := hS; exact exec_load 24 (.tmp 17) rfl _ rfl _ (by have h := run_part_load (P := Tryd.prog) 24 18 D.toList _ (N.out.below hW N.out.lt) KP2.out Tryd.underlying24 rfl ID.out; rwa [Array.toArray_toList] at h))
  simp only [Act.put, tS1, tS2, tS3]
  refine tkA 13 (?_) ?_ E0.out ?_
  rotate_left
  · (intro w1 hS; go_simp; try with_reducible rfl)
  simp only [Act.put, tS1, tS2, tS3]
  refine tkA 14 (?_) ?_ E0.out ?_
  rotate_left
  · (intro w1 hS; have hW := hS; have q := ((N.out.below hW N.out.lt).cell 36).trans G36.out; clear hW hS; go_simp; try with_reducible rfl)
  simp only [Act.put, tS1, tS2, tS3]
  refine tkO 2 (fun KK hK => ?_)
  go_simp
  refine (same_below (CP.out Y3x0)).mono ?_
  rintro e Y3x1 ⟨rfl, hy⟩
  have E1 := Lib.hid (E0.out.trans (hy.mono E0.out.size))
  have C1 := Lib.hid E1.out
  clear hy E0
  refine hK.out _ _ C1.out (fun _ => ?_)
  clear hK KK
  refine wpAnyH_mono (S' := (fun w' : World => Below Y3x1.heap.size Y3x1 w')) (fun w1 h => C1.out.trans (h.mono C1.out.size)) _ _ _ _ ?_
  clear C1
  try simp only [Act.put, tS1, tS2, tS3]
  refine tkA 3 (?_) ?_ (Below.refl _ _) ?_
  rotate_left
  · (intro w1 hS; go_simp; try with_reducible rfl)
  simp only [Act.put, tS1, tS2, tS3]
  refine tkO 8 (fun KK hK => ?_)
  go_simp
  refine (C1.out Y3x1 ((HE.out.below K.out).below E1.out)).mono ?_
  rintro e Y3x2 ⟨rfl, hy⟩
  have E2 := Lib.hid (E1.out.trans (hy.mono E1.out.size))
  have C2 := Lib.hid hy
  clear hy E1
  refine hK.out _ _ C2.out (fun _ => ?_)
  clear hK KK
  refine wpAnyH_mono (S' := (fun w' : World => Below Y3x2.heap.size Y3x2 w')) (fun w1 h => C2.out.trans (h.mono C2.out.size)) _ _ _ _ ?_
  clear C2
  try simp only [Act.put, tS1, tS2, tS3]
  refine tkA 9 (?_) ?_ (Below.refl _ _) ?_
  rotate_left
  · (intro w1 hS; go_simp; try with_reducible rfl)
  simp only [Act.put, tS1, tS2, tS3]
  refine tkA 10 (?_) ?_ (Below.refl _ _) ?_
  rotate_left
  · (intro w1 hS; go_simp; try with_reducible rfl)
  simp only [Act.put, tS1, tS2, tS3]
  refine tkO 15 (fun KK hK => ?_)
  go_simp
  refine (C2.out Y3x2 ((HE.out.below K.out).below E2.out)).mono ?_
  rintro e Y3x3 ⟨rfl, hy⟩
  have E3 := Lib.hid (E2.out.trans (hy.mono E2.out.size))
  have C3 := Lib.hid hy
  clear hy E2
  refine hK.out _ _ C3.out (fun _ => ?_)
  clear hK KK
  refine wpAnyH_mono (S' := (fun w' : World => Below Y3x3.heap.size Y3x3 w')) (fun w1 h => C3.out.trans (h.mono C3.out.size)) _ _ _ _ ?_
  clear C3
  try simp only [Act.put, tS1, tS2, tS3]
  refine tkA 16 (?_) ?_ (Below.refl _ _) ?_
  rotate_left
  · (intro w1 hS; go_simp; try with_reducible rfl)
  simp only [Act.put, tS1, tS2, tS3]
  refine tkA 17 (?_) ?_ (Below.refl _ _) ?_
  rotate_left
  · (intro w1 hS; go_simp; try with_reducible rfl)
  simp only [Act.put, tS1, tS2, tS3]
  refine wpAnyH_done (by kernel_rfl) ?_ _
  have hy := E3.out
  replace K := Lib.hid (K.out.trans (hy.mono K.out.size))
  replace N := Lib.hid (N.out.below hy N.out.lt)
  clear hy E3
  go_wp2
  go_ret
  exact ⟨by rw [← HT.out]; rfl, K.out⟩
theorem ktext_any (k : Fl) (hk : k.Fit) (w : World) (hE : Env w) : Calls Tryd.prog 19 #[.agg k.cs] w fun e w' => e = .returned (.string ⟨(tK k).toArray⟩) ∧ Below w.heap.size w w' := by
  cases hv : vK k with
  | false => exact ktext_no k hk hv w
  | true => exact ktext_yes k hk hv w hE
end Go.Proofs.YthkaadcgiplolaaDoor
namespace Go.Proofs.YthkaadcgiplolaaDoor
open Go.RowKit Go.Lib
theorem dec_small {u : Nat} (h : u < 10) : decDigits u = [UInt8.ofNat (48 + u % 10)] := by rw [decDigits, dif_pos h, Nat.mod_eq_of_lt h]
theorem dec_big {u : Nat} (h : 10 ≤ u) : decDigits u = decDigits (u / 10) ++ [UInt8.ofNat (48 + u % 10)] := by rw [decDigits, dif_neg (by omega)]
def DInv (n u : Nat) (d : List UInt8) : Prop := d = [] ∧ u = n ∨ d ≠ [] ∧ (0 < u → decDigits n = decDigits u ++ d) ∧ (u = 0 → decDigits n = d)
theorem DInv.step {n u : Nat} {d : List UInt8} (h : DInv n u d) (hu : 0 < u ∨ d = []) : DInv n (u / 10) (UInt8.ofNat (48 + u % 10) :: d) := by
  refine .inr ⟨by simp, ?_, ?_⟩
  · intro h1
    rcases h with ⟨rfl, rfl⟩ | ⟨h2, h3, h4⟩
    · exact dec_big (by omega)
    · rw [h3 (by omega), dec_big (show 10 ≤ u by omega)]; simp
  · intro h1
    rcases h with ⟨rfl, rfl⟩ | ⟨h2, h3, h4⟩
    · exact dec_small (by omega)
    · have h5 : 0 < u := by rcases hu with h | h; exact h; exact absurd h h2
      rw [h3 h5, dec_small (show u < 10 by omega)]; simp
theorem DInv.len {n u : Nat} {d : List UInt8} (h : DInv n u d) (hn : n < 65536) : d.length ≤ 5 := by
  have q := dec_len n hn
  rcases h with ⟨rfl, rfl⟩ | ⟨h2, h3, h4⟩
  · simp
  · rcases Nat.eq_zero_or_pos u with h5 | h5
    · rw [h4 h5] at q; exact q
    · rw [h3 h5, List.length_append] at q; omega
theorem conv_one (c : Nat) (W : World) : (convert 28 9 (.slice (some ⟨W.heap.size, 0, none⟩) 1 1)).run Tryd.prog (W.alloc (.cells #[.int .u8 (c : Int)] 5)) = .ok (.string ⟨#[UInt8.ofNat c]⟩) (W.alloc (.cells #[.int .u8 (c : Int)] 5)) :=
  conv_rd (P := Tryd.prog) _ 28 9 5 Tryd.underlying28 Tryd.underlying5 Tryd.underlying9 _ [c] (rd_lit W .u8 5 [c] 1 (0, 0) rfl (by simp [maxLen]))
theorem empty_str (X : ByteArray) : (⟨#[]⟩ : ByteArray) ++ X = X := by
  apply ByteArray.ext
  simp
theorem cons_str (c : UInt8) (d : List UInt8) : (⟨#[c]⟩ : ByteArray) ++ ⟨d.toArray⟩ = ⟨(c :: d).toArray⟩ := by
  apply ByteArray.ext
  simp
set_option maxRecDepth 100000 in
set_option maxHeartbeats 2000000 in
theorem decimal_any (n : Nat) (hn : n < 65536) (w : World) :
    Calls Tryd.prog 39 #[.int .i64 (n : Int)] w fun e w' => e = .returned (.string ⟨(decDigits n).toArray⟩) ∧ Below w.heap.size w w' := by
  have w1 : IntKind.u64.wrap (n : Int) = (n : Int) := by rw [IntKind.wrap_u64]; omega
  have w2 : decide ((n : Int) < 0) = false := decide_eq_false (by omega)
  go_enter Tryd.func39, Tryd.ntmps39
  go_wp2
  go_loopw [3, 5] (fun u d wr => ∃ (un : Nat) (dl : List UInt8), u = .int .u64 (un : Int) ∧ d = .string ⟨dl.toArray⟩ ∧ un ≤ n ∧ Hid (DInv n un dl) ∧ Hid (Below w.heap.size w wr)) (fun u d _ => (RowKit.intOf u).toNat + (match d with | .string s => if s.size = 0 then 1 else 0 | _ => 0))
  case atStart => exact ⟨n, [], rfl, rfl, Nat.le_refl _, Lib.hid (.inl ⟨rfl, rfl⟩), Lib.hid (Below.refl _ _)⟩
  case round =>
    obtain ⟨un, dl, rfl, rfl, hle, hD, hB⟩ := hrel
    have hl := hD.out.len hn
    have hcv := conv_one
    by_cases h0 : un = 0
    · subst h0
      cases dl with
      | nil =>
        have g1 : ¬ 9223372036854775807 < 1 + (⟨#[]⟩ : ByteArray).size := by rw [show (⟨#[]⟩ : ByteArray).size = 0 from rfl]; omega
        have q := hD.out.step (.inr rfl)
        have HQ := Lib.hid q
        have HB2 := Lib.hid (hB.out.alloc hB.out.size (.cells #[.int .u8 48] 5))
        clear q hl
        have hcv0 : (convert 28 9 (.slice (some ⟨wr.heap.size, 0, none⟩) 1 1)).run Tryd.prog (wr.alloc (.cells #[.int .u8 48] 5)) = .ok (.string ⟨#[48]⟩) (wr.alloc (.cells #[.int .u8 48] 5)) := conv_one 48 wr
        clear hcv
        go_wp2
        go_roundw
        case rel => exact ⟨0, [48], rfl, rfl, Nat.zero_le _, HQ, HB2⟩
        case measure => simp [RowKit.intOf, ByteArray.size]
      | cons c r =>
        have he : (⟨(c :: r).toArray⟩ : ByteArray).toList.isEmpty = false := by rw [Go.ByteArray.toList_eq]; simp
        have hz : ¬ 9223372036854775807 < (⟨(c :: r).toArray⟩ : ByteArray).size := by rw [mk_size]; omega
        have q : decDigits n = c :: r := by
          rcases hD.out with ⟨h1, -⟩ | ⟨-, -, h2⟩
          · cases h1
          · exact h2 rfl
        have HQ := Lib.hid q
        clear hcv q hl
        generalize hX : (⟨(c :: r).toArray⟩ : ByteArray) = X at *
        have HX := Lib.hid hX
        clear hX
        go_wp2
        go_ret
        refine ⟨?_, hB.out⟩
        rw [HQ.out, HX.out]
        show Ending.returned (.string ((⟨#[]⟩ : ByteArray) ++ X)) = _
        rw [empty_str]
    · obtain ⟨c, hc⟩ : ∃ c, c = 48 + un % 10 := ⟨_, rfl⟩
      have w3 : IntKind.u64.wrap (48 + (un : Int) % 10) = (c : Int) := by rw [IntKind.wrap_u64]; omega
      have w4 : IntKind.u8.wrap (c : Int) = (c : Int) := by rw [IntKind.wrap_u8]; omega
      have w5 : IntKind.u8.wrap (48 + (un : Int) % 10) = (c : Int) := by rw [IntKind.wrap_u8]; omega
      have w6 : IntKind.u64.wrap ((un : Int) % 10) = (un : Int) % 10 := by rw [IntKind.wrap_u64]; omega
      have w7 : IntKind.u64.wrap ((un : Int) / 10) = (un : Int) / 10 := by rw [IntKind.wrap_u64]; omega
      have g0 : decide (0 < (un : Int)) = true := decide_eq_true (by omega)
      have q := hD.out.step (.inl (by omega))
      rw [← hc] at q
      have HQ := Lib.hid q
      have HB2 := Lib.hid (hB.out.alloc hB.out.size (.cells #[.int .u8 (c : Int)] 5))
      have hcv0 := conv_one c wr
      have hX : (⟨#[UInt8.ofNat c]⟩ : ByteArray) ++ ⟨dl.toArray⟩ = ⟨(UInt8.ofNat c :: dl).toArray⟩ := cons_str _ _
      have g1 : ¬ 9223372036854775807 < 1 + (⟨dl.toArray⟩ : ByteArray).size := by rw [mk_size]; omega
      have g2 : (un : Int) / 10 = ((un / 10 : Nat) : Int) := by omega
      have hlt : un / 10 < un := by omega
      have hle2 : un / 10 ≤ n := by omega
      have HX := Lib.hid hX
      have G2 := Lib.hid g2
      clear q hl hcv hc hX g2
      go_wp2
      go_roundw
      case rel => exact ⟨un / 10, UInt8.ofNat c :: dl, by rw [← G2.out], by rw [← HX.out], hle2, HQ, HB2⟩
      case measure =>
        have q : ¬ ((⟨#[UInt8.ofNat c]⟩ : ByteArray) ++ ⟨dl.toArray⟩).size = 0 := by rw [HX.out, mk_size]; simp
        simp only [RowKit.intOf]
        rw [if_neg q]
        split <;> omega
end Go.Proofs.YthkaadcgiplolaaDoor
namespace Go.Proofs.YthkaadcgiplolaaDoor
open Go.RowKit Go.Lib
set_option maxRecDepth 100000 in
set_option maxHeartbeats 4000000 in
theorem rtext_four (S : List Nat) (hl : S.length = 16) (hb : ∀ n ∈ S, n < 256) (w : World) :
    Calls Tryd.prog 38 #[adr false S] w fun e w' => e = .returned (.string ⟨(text4 (S.take 4)).toArray⟩) ∧ Below w.heap.size w w' := by
  have K := Lib.hid (Below.refl w.heap.size w)
  have IA : Hid ((Tryd.prog.info? 24).map (·.size) = some (cellsA false S).size) := i24.trans (congrArg some (by rw [cellsA_size, hl]))
  have G0 := Lib.hid (cellsA_at0 false S)
  have H0 := Lib.hid (cellsA_get false S 0 (by omega))
  have b0 : S.getD 0 0 < 256 := getD_small S hb 0
  have D0 := Lib.hid (fun W => decimal_any (S.getD 0 0) (by omega) W)
  have l0 := dec_len (S.getD 0 0) (by omega)
  have z0 : (⟨(decDigits (S.getD 0 0)).toArray⟩ : ByteArray).size ≤ 5 := by rw [mk_size]; exact l0
  have H1 := Lib.hid (cellsA_get false S 1 (by omega))
  have b1 : S.getD 1 0 < 256 := getD_small S hb 1
  have D1 := Lib.hid (fun W => decimal_any (S.getD 1 0) (by omega) W)
  have l1 := dec_len (S.getD 1 0) (by omega)
  have z1 : (⟨(decDigits (S.getD 1 0)).toArray⟩ : ByteArray).size ≤ 5 := by rw [mk_size]; exact l1
  have H2 := Lib.hid (cellsA_get false S 2 (by omega))
  have b2 : S.getD 2 0 < 256 := getD_small S hb 2
  have D2 := Lib.hid (fun W => decimal_any (S.getD 2 0) (by omega) W)
  have l2 := dec_len (S.getD 2 0) (by omega)
  have z2 : (⟨(decDigits (S.getD 2 0)).toArray⟩ : ByteArray).size ≤ 5 := by rw [mk_size]; exact l2
  have H3 := Lib.hid (cellsA_get false S 3 (by omega))
  have b3 : S.getD 3 0 < 256 := getD_small S hb 3
  have D3 := Lib.hid (fun W => decimal_any (S.getD 3 0) (by omega) W)
  have l3 := dec_len (S.getD 3 0) (by omega)
  have z3 : (⟨(decDigits (S.getD 3 0)).toArray⟩ : ByteArray).size ≤ 5 := by rw [mk_size]; exact l3
  have HT : Hid ((⟨(decDigits (S.getD 0 0)).toArray⟩ : ByteArray) ++ ⟨#[46]⟩ ++ ⟨(decDigits (S.getD 1 0)).toArray⟩ ++ ⟨#[46]⟩ ++ ⟨(decDigits (S.getD 2 0)).toArray⟩ ++ ⟨#[46]⟩ ++ ⟨(decDigits (S.getD 3 0)).toArray⟩ = ⟨(text4 (S.take 4)).toArray⟩) := by
    show _ = _
    obtain ⟨b0, b1, b2, b3, b4, b5, b6, b7, b8, b9, b10, b11, b12, b13, b14, b15, rfl⟩ := list16 S hl
    apply ByteArray.ext
    simp [text4]
  unfold adr
  generalize (⟨(decDigits (S.getD 0 0)).toArray⟩ : ByteArray) = T0 at *
  generalize S.getD 0 0 = x0 at *
  generalize (⟨(decDigits (S.getD 1 0)).toArray⟩ : ByteArray) = T1 at *
  generalize S.getD 1 0 = x1 at *
  generalize (⟨(decDigits (S.getD 2 0)).toArray⟩ : ByteArray) = T2 at *
  generalize S.getD 2 0 = x2 at *
  generalize (⟨(decDigits (S.getD 3 0)).toArray⟩ : ByteArray) = T3 at *
  generalize S.getD 3 0 = x3 at *
  generalize (⟨(text4 (S.take 4)).toArray⟩ : ByteArray) = R at *
  generalize cellsA false S = SA at *
  have g1 : ¬ 9223372036854775807 < T0.size + 1 := by omega
  have g2 : ¬ 9223372036854775807 < T0.size + 1 + T1.size := by omega
  have g3 : ¬ 9223372036854775807 < T0.size + 1 + T1.size + 1 := by omega
  have g4 : ¬ 9223372036854775807 < T0.size + 1 + T1.size + 1 + T2.size := by omega
  have g5 : ¬ 9223372036854775807 < T0.size + 1 + T1.size + 1 + T2.size + 1 := by omega
  have g6 : ¬ 9223372036854775807 < T0.size + 1 + T1.size + 1 + T2.size + 1 + T3.size := by omega
  have w0 : IntKind.i64.wrap (x0 : Int) = (x0 : Int) := by rw [IntKind.wrap_i64]; omega
  have w1 : IntKind.i64.wrap (x1 : Int) = (x1 : Int) := by rw [IntKind.wrap_i64]; omega
  have w2 : IntKind.i64.wrap (x2 : Int) = (x2 : Int) := by rw [IntKind.wrap_i64]; omega
  have w3 : IntKind.i64.wrap (x3 : Int) = (x3 : Int) := by rw [IntKind.wrap_i64]; omega
  clear hl hb b0 b1 b2 b3 l0 l1 l2 l3 z0 z1 z2 z3
  go_enter Tryd.func38, Tryd.ntmps38
  have hal := (Below.refl w.heap.size w).alloc (Nat.le_refl _) (.cells SA 24)
  replace K := Lib.hid (K.out.trans (hal.mono K.out.size))
  have N := Lib.hid (Blk.new w 24 SA)
  clear hal
  have L1 := (N.out.cell 0).trans G0.out
  go_wp2_with fail
  clear L1
  have hzV1 : Hid ((w.alloc (.cells SA 24)).heap.size = w.heap.size + 1) := by show _ = _; simp only [World.size_alloc]
  generalize (w.alloc (.cells SA 24)) = V1 at *
  refine wp_region_held (S := (fun w' : World => Below (V1.heap.size) V1 w')) (by kernel_rfl) ?_
  change wpAnyH _ _ _ _ _ _ _ _ V1.drew
  have hy : Below V1.heap.size V1 V1.drew := (Below.refl _ _).drew
  have hE0 : Below (V1.heap.size) V1 V1.drew := (Below.refl _ _).drew
  clear hy
  generalize V1.drew = Y2x0 at hE0  ⊢
  have E0 := Lib.hid hE0
  clear hE0
  refine tkA 0 (?_) ?_ E0.out ?_
  rotate_left
  · (intro w1 hS; go_simp; try with_reducible rfl)
  simp only [Act.put, tS1, tS2, tS3]
  refine tkA 1 (?_) ?_ E0.out ?_
  rotate_left
  · (intro w1 hS; go_simp; try with_reducible rfl)
  simp only [Act.put, tS1, tS2, tS3]
  refine tkA 2 (?_) ?_ E0.out ?_
  rotate_left
  · (intro w1 hS; have hW := hS; have q := (N.out.below hW N.out.lt).cell 1; have q2 := q.trans H0.out; clear q; clear hW hS; go_simp; try with_reducible rfl)
  simp only [Act.put, tS1, tS2, tS3]
  refine tkA 3 (?_) ?_ E0.out ?_
  rotate_left
  · (intro w1 hS; go_simp; try with_reducible rfl)
  simp only [Act.put, tS1, tS2, tS3]
  refine tkA 6 (?_) ?_ E0.out ?_
  rotate_left
  · (intro w1 hS; go_simp; try with_reducible rfl)
  simp only [Act.put, tS1, tS2, tS3]
  refine tkA 7 (?_) ?_ E0.out ?_
  rotate_left
  · (intro w1 hS; go_simp; try with_reducible rfl)
  simp only [Act.put, tS1, tS2, tS3]
  refine tkA 8 (?_) ?_ E0.out ?_
  rotate_left
  · (intro w1 hS; have hW := hS; have q := (N.out.below hW N.out.lt).cell 2; have q2 := q.trans H1.out; clear q; clear hW hS; go_simp; try with_reducible rfl)
  simp only [Act.put, tS1, tS2, tS3]
  refine tkA 9 (?_) ?_ E0.out ?_
  rotate_left
  · (intro w1 hS; go_simp; try with_reducible rfl)
  simp only [Act.put, tS1, tS2, tS3]
  refine tkA 13 (?_) ?_ E0.out ?_
  rotate_left
  · (intro w1 hS; go_simp; try with_reducible rfl)
  simp only [Act.put, tS1, tS2, tS3]
  refine tkA 14 (?_) ?_ E0.out ?_
  rotate_left
  · (intro w1 hS; go_simp; try with_reducible rfl)
  simp only [Act.put, tS1, tS2, tS3]
  refine tkA 15 (?_) ?_ E0.out ?_
  rotate_left
  · (intro w1 hS; have hW := hS; have q := (N.out.below hW N.out.lt).cell 3; have q2 := q.trans H2.out; clear q; clear hW hS; go_simp; try with_reducible rfl)
  simp only [Act.put, tS1, tS2, tS3]
  refine tkA 16 (?_) ?_ E0.out ?_
  rotate_left
  · (intro w1 hS; go_simp; try with_reducible rfl)
  simp only [Act.put, tS1, tS2, tS3]
  refine tkA 20 (?_) ?_ E0.out ?_
  rotate_left
  · (intro w1 hS; go_simp; try with_reducible rfl)
  simp only [Act.put, tS1, tS2, tS3]
  refine tkA 21 (?_) ?_ E0.out ?_
  rotate_left
  · (intro w1 hS; go_simp; try with_reducible rfl)
  simp only [Act.put, tS1, tS2, tS3]
  refine tkA 22 (?_) ?_ E0.out ?_
  rotate_left
  · (intro w1 hS; have hW := hS; have q := (N.out.below hW N.out.lt).cell 4; have q2 := q.trans H3.out; clear q; clear hW hS; go_simp; try with_reducible rfl)
  simp only [Act.put, tS1, tS2, tS3]
  refine tkA 23 (?_) ?_ E0.out ?_
  rotate_left
  · (intro w1 hS; go_simp; try with_reducible rfl)
  simp only [Act.put, tS1, tS2, tS3]
  refine tkO 4 (fun KK hK => ?_)
  go_simp
  refine (D0.out Y2x0).mono ?_
  rintro e Y2x1 ⟨rfl, hy⟩
  have E1 := Lib.hid (E0.out.trans (hy.mono E0.out.size))
  have C1 := Lib.hid E1.out
  clear hy E0
  refine hK.out _ _ C1.out (fun _ => ?_)
  clear hK KK
  refine wpAnyH_mono (S' := (fun w' : World => Below Y2x1.heap.size Y2x1 w')) (fun w1 h => C1.out.trans (h.mono C1.out.size)) _ _ _ _ ?_
  clear C1
  try simp only [Act.put, tS1, tS2, tS3]
  refine tkA 5 (?_) ?_ (Below.refl _ _) ?_
  rotate_left
  · (intro w1 hS; go_simp; try with_reducible rfl)
  simp only [Act.put, tS1, tS2, tS3]
  refine tkO 10 (fun KK hK => ?_)
  go_simp
  refine (D1.out Y2x1).mono ?_
  rintro e Y2x2 ⟨rfl, hy⟩
  have E2 := Lib.hid (E1.out.trans (hy.mono E1.out.size))
  have C2 := Lib.hid hy
  clear hy E1
  refine hK.out _ _ C2.out (fun _ => ?_)
  clear hK KK
  refine wpAnyH_mono (S' := (fun w' : World => Below Y2x2.heap.size Y2x2 w')) (fun w1 h => C2.out.trans (h.mono C2.out.size)) _ _ _ _ ?_
  clear C2
  try simp only [Act.put, tS1, tS2, tS3]
  refine tkA 11 (?_) ?_ (Below.refl _ _) ?_
  rotate_left
  · (intro w1 hS; go_simp; try with_reducible rfl)
  simp only [Act.put, tS1, tS2, tS3]
  refine tkA 12 (?_) ?_ (Below.refl _ _) ?_
  rotate_left
  · (intro w1 hS; go_simp; try with_reducible rfl)
  simp only [Act.put, tS1, tS2, tS3]
  refine tkO 17 (fun KK hK => ?_)
  go_simp
  refine (D2.out Y2x2).mono ?_
  rintro e Y2x3 ⟨rfl, hy⟩
  have E3 := Lib.hid (E2.out.trans (hy.mono E2.out.size))
  have C3 := Lib.hid hy
  clear hy E2
  refine hK.out _ _ C3.out (fun _ => ?_)
  clear hK KK
  refine wpAnyH_mono (S' := (fun w' : World => Below Y2x3.heap.size Y2x3 w')) (fun w1 h => C3.out.trans (h.mono C3.out.size)) _ _ _ _ ?_
  clear C3
  try simp only [Act.put, tS1, tS2, tS3]
  refine tkA 18 (?_) ?_ (Below.refl _ _) ?_
  rotate_left
  · (intro w1 hS; go_simp; try with_reducible rfl)
  simp only [Act.put, tS1, tS2, tS3]
  refine tkA 19 (?_) ?_ (Below.refl _ _) ?_
  rotate_left
  · (intro w1 hS; go_simp; try with_reducible rfl)
  simp only [Act.put, tS1, tS2, tS3]
  refine tkO 24 (fun KK hK => ?_)
  go_simp
  refine (D3.out Y2x3).mono ?_
  rintro e Y2x4 ⟨rfl, hy⟩
  have E4 := Lib.hid (E3.out.trans (hy.mono E3.out.size))
  have C4 := Lib.hid hy
  clear hy E3
  refine hK.out _ _ C4.out (fun _ => ?_)
  clear hK KK
  refine wpAnyH_mono (S' := (fun w' : World => Below Y2x4.heap.size Y2x4 w')) (fun w1 h => C4.out.trans (h.mono C4.out.size)) _ _ _ _ ?_
  clear C4
  try simp only [Act.put, tS1, tS2, tS3]
  refine tkA 25 (?_) ?_ (Below.refl _ _) ?_
  rotate_left
  · (intro w1 hS; go_simp; try with_reducible rfl)
  simp only [Act.put, tS1, tS2, tS3]
  refine tkA 26 (?_) ?_ (Below.refl _ _) ?_
  rotate_left
  · (intro w1 hS; go_simp; try with_reducible rfl)
  simp only [Act.put, tS1, tS2, tS3]
  refine wpAnyH_done (by kernel_rfl) ?_ _
  have hy := E4.out
  replace K := Lib.hid (K.out.trans (hy.mono K.out.size))
  replace N := Lib.hid (N.out.below hy N.out.lt)
  clear hy E4
  go_wp2
  go_ret
  exact ⟨by rw [← HT.out]; rfl, K.out⟩
theorem hex_at (y : Nat) (h : y < 16) (W : World) : (Instr.index 9 (.string ⟨#[48, 49, 50, 51, 52, 53, 54, 55, 56, 57, 97, 98, 99, 100, 101, 102]⟩) (.int .u8 (y : Int))).run Tryd.prog W = .ok (.int .u8 ((hx y).toNat : Int)) W := by
  rcases sixteen y h with rfl | rfl | rfl | rfl | rfl | rfl | rfl | rfl | rfl | rfl | rfl | rfl | rfl | rfl | rfl | rfl <;> rfl
theorem rd_two {w : World} {g p q : Nat} (h : Blk w g 5 #[.int .u8 (p : Int), .int .u8 (q : Int)]) : Rd w (.slice (some ⟨g, 0, none⟩) 2 2) (nus .u8 [p, q]) := by
  refine ⟨_, _, rfl, Nat.le_refl _, by simp [maxLen], .inr ⟨g, 0, rfl, h.lt, fun i hi => ?_⟩⟩
  rw [Nat.zero_add, h.cell i]
  simp [nus]
theorem str_two (a b : UInt8) : str [a.toNat, b.toNat] = ⟨#[a, b]⟩ := by
  unfold str
  simp
theorem t6_colon (S : List Nat) (k : Nat) (h0 : 0 < k) (h : k % 2 = 0) : (⟨(text6to S (ln6 k)).toArray⟩ : ByteArray) ++ ⟨#[58]⟩ = ⟨(text6to S (at6 k)).toArray⟩ := by
  rw [text6to_colon S k h0 h]
  apply ByteArray.ext
  simp
theorem t6_two (S : List Nat) (k : Nat) : (⟨(text6to S (at6 k)).toArray⟩ : ByteArray) ++ ⟨#[hx (S.getD k 0 / 16), hx (S.getD k 0 % 16)]⟩ = ⟨(text6to S (ln6 (k + 1))).toArray⟩ := by
  rw [ln6_next, text6to_two]
  apply ByteArray.ext
  simp
theorem t6_size (S : List Nat) (n : Nat) : (⟨(text6to S n).toArray⟩ : ByteArray).size = n := by rw [mk_size]; simp [text6to]
set_option maxRecDepth 100000 in
set_option maxHeartbeats 8000000 in
theorem rtext_six (S : List Nat) (hl : S.length = 16) (hb : ∀ n ∈ S, n < 256) (w : World) :
    Calls Tryd.prog 38 #[adr true S] w fun e w' => e = .returned (.string ⟨(text6 S).toArray⟩) ∧ Below w.heap.size w w' := by
  have IA : Hid ((Tryd.prog.info? 24).map (·.size) = some (cellsA true S).size) := i24.trans (congrArg some (by rw [cellsA_size, hl]))
  have G0 := Lib.hid (cellsA_at0 true S)
  have HG := Lib.hid (fun k h => cellsA_get true S k h)
  have HL := Lib.hid hl
  have HB := Lib.hid hb
  unfold adr
  generalize cellsA true S = SA at *
  have N0 := Lib.hid (Blk.new w 24 SA)
  have K0 := Lib.hid ((Below.refl w.heap.size w).alloc (Nat.le_refl _) (.cells SA 24))
  have hc0 := (N0.out.cell 0).trans G0.out
  clear hl hb
  go_enter Tryd.func38, Tryd.ntmps38
  go_wp2
  go_loopw [4, 5] (fun d i wr => ∃ k : Nat, k ≤ 16 ∧ i = .int .i64 (k : Int) ∧ d = .string ⟨(text6to S (ln6 k)).toArray⟩ ∧ Hid (Blk wr w.heap.size 24 SA) ∧ Hid (Below w.heap.size w wr)) (fun _ i _ => 16 - (RowKit.intOf i).toNat)
  case atStart => exact ⟨0, by omega, rfl, rfl, N0, K0⟩
  case round =>
    obtain ⟨k, hk, rfl, rfl, N, K⟩ := hrel
    clear N0 K0 hc0
    by_cases hlt : k < 16
    · obtain ⟨x, hxx⟩ : ∃ x, x = S.getD k 0 := ⟨_, rfl⟩
      have hx8 : x < 256 := by rw [hxx]; exact getD_small S HB.out k
      have HC := Lib.hid (HG.out k (by rw [HL.out]; exact hlt))
      rw [← hxx] at HC
      have HT := Lib.hid (t6_two S k)
      rw [← hxx] at HT
      obtain ⟨y, hy⟩ : ∃ y, y = x / 16 := ⟨_, rfl⟩
      obtain ⟨z, hz⟩ : ∃ z, z = x % 16 := ⟨_, rfl⟩
      rw [← hy, ← hz] at HT
      have hy16 : y < 16 := by omega
      have hz16 : z < 16 := by omega
      have hyi : (x : Int) / 16 = (y : Int) := by omega
      have hzi : bits .and .u8 (x : Int) 15 = (z : Int) := by rw [hz]; exact and15 ⟨x, hx8⟩
      have HI := Lib.hid hex_at
      have hlen := ln6_le k hk
      have hat := at6_le k hlt
      have hs1 := t6_size S (ln6 k)
      have hs2 := t6_size S (at6 k)
      have HTW := Lib.hid (str_two (hx y) (hx z))
      have hX : ⟨(text6to S (ln6 (k + 1))).toArray⟩ = (⟨(text6to S (ln6 (k + 1))).toArray⟩ : ByteArray) := rfl
      clear hy hz hxx hx8
      have d16 : decide ((k : Int) < 16) = true := decide_eq_true (by omega)
      by_cases h1 : k = 0
      · have d0 : decide ((0 : Int) < (k : Int)) = false := decide_eq_false (by omega)
        have d00 : ¬ 0 < k := by omega
        have HE := Lib.hid (ln6_at k (.inl h1))
        rw [HE.out] at hs1 ⊢
        have g1 : ¬ 9223372036854775807 < (⟨(text6to S (at6 k)).toArray⟩ : ByteArray).size + 2 := by rw [hs2]; omega
        clear hs1 hs2 h1
        generalize (⟨(text6to S (at6 k)).toArray⟩ : ByteArray) = X1 at *
        go_wp2_with fail
        go_wp2_with fail
        refine wp_region_held (S := (fun w' : World => Below (wr.heap.size) wr w')) (by kernel_rfl) ?_
        change wpAnyH _ _ _ _ _ _ _ _ wr.drew
        have hy : Below wr.heap.size wr wr.drew := (Below.refl _ _).drew
        have hE0 : Below (wr.heap.size) wr wr.drew := (Below.refl _ _).drew
        clear hy
        generalize wr.drew = Y10x0 at hE0  ⊢
        have E0 := Lib.hid hE0
        clear hE0
        refine tkA 0 (?_) ?_ E0.out ?_
        rotate_left
        · (intro w1 hS; go_simp; try with_reducible rfl)
        simp only [Act.put, tS1, tS2, tS3]
        refine tkA 1 (?_) ?_ E0.out ?_
        rotate_left
        · (intro w1 hS; go_simp; try with_reducible rfl)
        simp only [Act.put, tS1, tS2, tS3]
        refine tkA 2 (?_) ?_ E0.out ?_
        rotate_left
        · (intro w1 hS; go_simp; try with_reducible rfl)
        simp only [Act.put, tS1, tS2, tS3]
        refine tkA 3 (?_) ?_ E0.out ?_
        rotate_left
        · (intro w1 hS; go_simp; try with_reducible rfl)
        simp only [Act.put, tS1, tS2, tS3]
        refine tkA 4 (?_) ?_ E0.out ?_
        rotate_left
        · (intro w1 hS; have hW := hS; have q : (k : Int) < 16 := (by omega); clear hW hS; go_simp; try with_reducible rfl)
        simp only [Act.put, tS1, tS2, tS3]
        refine tkA 5 (?_) ?_ E0.out ?_
        rotate_left
        · (intro w1 hS; have hW := hS; have q := ((N.out.below hW N.out.lt).cell (1 + k)).trans HC.out; clear hW hS; go_simp; try with_reducible rfl)
        simp only [Act.put, tS1, tS2, tS3]
        refine tkA 6 (?_) ?_ E0.out ?_
        rotate_left
        · (intro w1 hS; go_simp; try with_reducible rfl)
        simp only [Act.put, tS1, tS2, tS3]
        refine tkA 7 (?_) ?_ E0.out ?_
        rotate_left
        · (intro w1 hS; have hW := hS; have q := HI.out y hy16 w1; clear hW hS; go_simp; try with_reducible rfl)
        simp only [Act.put, tS1, tS2, tS3]
        refine tkA 8 (?_) ?_ E0.out ?_
        rotate_left
        · (intro w1 hS; go_simp; try with_reducible rfl)
        simp only [Act.put, tS1, tS2, tS3]
        refine tkA 9 (?_) ?_ E0.out ?_
        rotate_left
        · (intro w1 hS; go_simp; try with_reducible rfl)
        simp only [Act.put, tS1, tS2, tS3]
        refine tkA 10 (?_) ?_ E0.out ?_
        rotate_left
        · (intro w1 hS; go_simp; try with_reducible rfl)
        simp only [Act.put, tS1, tS2, tS3]
        refine tkA 11 (?_) ?_ E0.out ?_
        rotate_left
        · (intro w1 hS; have hW := hS; have q : (k : Int) < 16 := (by omega); clear hW hS; go_simp; try with_reducible rfl)
        simp only [Act.put, tS1, tS2, tS3]
        refine tkA 12 (?_) ?_ E0.out ?_
        rotate_left
        · (intro w1 hS; have hW := hS; have q := ((N.out.below hW N.out.lt).cell (1 + k)).trans HC.out; clear hW hS; go_simp; try with_reducible rfl)
        simp only [Act.put, tS1, tS2, tS3]
        refine tkA 13 (?_) ?_ E0.out ?_
        rotate_left
        · (intro w1 hS; go_simp; try with_reducible rfl)
        simp only [Act.put, tS1, tS2, tS3]
        refine tkA 14 (?_) ?_ E0.out ?_
        rotate_left
        · (intro w1 hS; have hW := hS; have q := HI.out z hz16 w1; clear hW hS; go_simp; try with_reducible rfl)
        simp only [Act.put, tS1, tS2, tS3]
        refine tkO 15 (fun KK hK => ?_)
        go_simp
        have hy := (Below.refl Y10x0.heap.size Y10x0).alloc (Nat.le_refl _) (.cells #[Value.int .u8 ((hx y).toNat : Int), .int .u8 ((hx z).toNat : Int)] 5)
        have BB := Blk.new Y10x0 5 #[Value.int .u8 ((hx y).toNat : Int), .int .u8 ((hx z).toNat : Int)]
        obtain ⟨ga, hga⟩ : ∃ g, g = Y10x0.heap.size := ⟨_, rfl⟩
        rw [← hga] at BB
        rw [← hga]
        generalize Y10x0.alloc (.cells #[Value.int .u8 ((hx y).toNat : Int), .int .u8 ((hx z).toNat : Int)] 5) = Y10x1 at BB hy ⊢
        clear hga
        have E1 := Lib.hid (E0.out.trans (hy.mono E0.out.size))
        have C1 := Lib.hid E1.out
        have RB := Lib.hid (rd_two BB)
        clear BB
        clear hy E0
        refine hK.out _ _ C1.out (fun _ => ?_)
        clear hK KK
        refine wpAnyH_mono (S' := (fun w' : World => Below Y10x1.heap.size Y10x1 w')) (fun w1 h => C1.out.trans (h.mono C1.out.size)) _ _ _ _ ?_
        clear C1
        try simp only [Act.put, tS1, tS2, tS3]
        refine tkA 16 (?_) ?_ (Below.refl _ _) ?_
        rotate_left
        · (intro w1 hS; have hW := E1.out.trans (hS.mono E1.out.size); have q := (conv_rd (P := Tryd.prog) w1 28 9 5 Tryd.underlying28 Tryd.underlying5 Tryd.underlying9 _ _ (RB.out.below hS)).trans (by rw [HTW.out]); clear hW hS; go_simp; try with_reducible rfl)
        simp only [Act.put, tS1, tS2, tS3]
        refine tkA 17 (?_) ?_ (Below.refl _ _) ?_
        rotate_left
        · (intro w1 hS; go_simp; try with_reducible rfl)
        simp only [Act.put, tS1, tS2, tS3]
        refine tkA 18 (?_) ?_ (Below.refl _ _) ?_
        rotate_left
        · (intro w1 hS; go_simp; try with_reducible rfl)
        simp only [Act.put, tS1, tS2, tS3]
        refine wpAnyH_done (by kernel_rfl) ?_ _
        have hy := E1.out
        replace K := Lib.hid (K.out.trans (hy.mono K.out.size))
        replace N := Lib.hid (N.out.below hy N.out.lt)
        clear hy E1
        go_wp2
        go_roundw
        case rel => exact ⟨k + 1, Nat.succ_le_of_lt hlt, by go_num, by rw [← HT.out], N, K⟩
        case measure => simp [RowKit.intOf]; omega
      · have h0x := h1
        clear h1
        by_cases h1 : k % 2 = 0
        · have d0 : decide ((0 : Int) < (k : Int)) = true := decide_eq_true (by omega)
          have d00 : 0 < k := by omega
          have d1 : ((k : Int) % 2 == 0) = true := beq_iff_eq.2 (by omega)
          have HE := Lib.hid (t6_colon S k (Nat.pos_of_ne_zero h0x) h1)
          have g0 : ¬ 9223372036854775807 < (⟨(text6to S (ln6 k)).toArray⟩ : ByteArray).size + 1 := by rw [hs1]; omega
          have g1 : ¬ 9223372036854775807 < (⟨(text6to S (ln6 k)).toArray⟩ : ByteArray).size + 1 + 2 := by rw [hs1]; omega
          clear hs1 hs2 h1
          generalize (⟨(text6to S (at6 k)).toArray⟩ : ByteArray) = X1 at *
          generalize (⟨(text6to S (ln6 k)).toArray⟩ : ByteArray) = X0 at *
          go_wp2_with fail
          go_wp2_with fail
          refine wp_region_held (S := (fun w' : World => Below (wr.heap.size) wr w')) (by kernel_rfl) ?_
          change wpAnyH _ _ _ _ _ _ _ _ wr.drew
          have hy : Below wr.heap.size wr wr.drew := (Below.refl _ _).drew
          have hE0 : Below (wr.heap.size) wr wr.drew := (Below.refl _ _).drew
          clear hy
          generalize wr.drew = Y10x0 at hE0  ⊢
          have E0 := Lib.hid hE0
          clear hE0
          refine tkA 0 (?_) ?_ E0.out ?_
          rotate_left
          · (intro w1 hS; go_simp; try with_reducible rfl)
          simp only [Act.put, tS1, tS2, tS3]
          refine tkA 1 (?_) ?_ E0.out ?_
          rotate_left
          · (intro w1 hS; go_simp; try with_reducible rfl)
          simp only [Act.put, tS1, tS2, tS3]
          refine tkA 2 (?_) ?_ E0.out ?_
          rotate_left
          · (intro w1 hS; go_simp; try with_reducible rfl)
          simp only [Act.put, tS1, tS2, tS3]
          refine tkA 3 (?_) ?_ E0.out ?_
          rotate_left
          · (intro w1 hS; go_simp; try with_reducible rfl)
          simp only [Act.put, tS1, tS2, tS3]
          refine tkA 4 (?_) ?_ E0.out ?_
          rotate_left
          · (intro w1 hS; have hW := hS; have q : (k : Int) < 16 := (by omega); clear hW hS; go_simp; try with_reducible rfl)
          simp only [Act.put, tS1, tS2, tS3]
          refine tkA 5 (?_) ?_ E0.out ?_
          rotate_left
          · (intro w1 hS; have hW := hS; have q := ((N.out.below hW N.out.lt).cell (1 + k)).trans HC.out; clear hW hS; go_simp; try with_reducible rfl)
          simp only [Act.put, tS1, tS2, tS3]
          refine tkA 6 (?_) ?_ E0.out ?_
          rotate_left
          · (intro w1 hS; go_simp; try with_reducible rfl)
          simp only [Act.put, tS1, tS2, tS3]
          refine tkA 7 (?_) ?_ E0.out ?_
          rotate_left
          · (intro w1 hS; have hW := hS; have q := HI.out y hy16 w1; clear hW hS; go_simp; try with_reducible rfl)
          simp only [Act.put, tS1, tS2, tS3]
          refine tkA 8 (?_) ?_ E0.out ?_
          rotate_left
          · (intro w1 hS; go_simp; try with_reducible rfl)
          simp only [Act.put, tS1, tS2, tS3]
          refine tkA 9 (?_) ?_ E0.out ?_
          rotate_left
          · (intro w1 hS; go_simp; try with_reducible rfl)
          simp only [Act.put, tS1, tS2, tS3]
          refine tkA 10 (?_) ?_ E0.out ?_
          rotate_left
          · (intro w1 hS; go_simp; try with_reducible rfl)
          simp only [Act.put, tS1, tS2, tS3]
          refine tkA 11 (?_) ?_ E0.out ?_
          rotate_left
          · (intro w1 hS; have hW := hS; have q : (k : Int) < 16 := (by omega); clear hW hS; go_simp; try with_reducible rfl)
          simp only [Act.put, tS1, tS2, tS3]
          refine tkA 12 (?_) ?_ E0.out ?_
          rotate_left
          · (intro w1 hS; have hW := hS; have q := ((N.out.below hW N.out.lt).cell (1 + k)).trans HC.out; clear hW hS; go_simp; try with_reducible rfl)
          simp only [Act.put, tS1, tS2, tS3]
          refine tkA 13 (?_) ?_ E0.out ?_
          rotate_left
          · (intro w1 hS; go_simp; try with_reducible rfl)
          simp only [Act.put, tS1, tS2, tS3]
          refine tkA 14 (?_) ?_ E0.out ?_
          rotate_left
          · (intro w1 hS; have hW := hS; have q := HI.out z hz16 w1; clear hW hS; go_simp; try with_reducible rfl)
          simp only [Act.put, tS1, tS2, tS3]
          refine tkO 15 (fun KK hK => ?_)
          go_simp
          have hy := (Below.refl Y10x0.heap.size Y10x0).alloc (Nat.le_refl _) (.cells #[Value.int .u8 ((hx y).toNat : Int), .int .u8 ((hx z).toNat : Int)] 5)
          have BB := Blk.new Y10x0 5 #[Value.int .u8 ((hx y).toNat : Int), .int .u8 ((hx z).toNat : Int)]
          obtain ⟨ga, hga⟩ : ∃ g, g = Y10x0.heap.size := ⟨_, rfl⟩
          rw [← hga] at BB
          rw [← hga]
          generalize Y10x0.alloc (.cells #[Value.int .u8 ((hx y).toNat : Int), .int .u8 ((hx z).toNat : Int)] 5) = Y10x1 at BB hy ⊢
          clear hga
          have E1 := Lib.hid (E0.out.trans (hy.mono E0.out.size))
          have C1 := Lib.hid E1.out
          have RB := Lib.hid (rd_two BB)
          clear BB
          clear hy E0
          refine hK.out _ _ C1.out (fun _ => ?_)
          clear hK KK
          refine wpAnyH_mono (S' := (fun w' : World => Below Y10x1.heap.size Y10x1 w')) (fun w1 h => C1.out.trans (h.mono C1.out.size)) _ _ _ _ ?_
          clear C1
          try simp only [Act.put, tS1, tS2, tS3]
          refine tkA 16 (?_) ?_ (Below.refl _ _) ?_
          rotate_left
          · (intro w1 hS; have hW := E1.out.trans (hS.mono E1.out.size); have q := (conv_rd (P := Tryd.prog) w1 28 9 5 Tryd.underlying28 Tryd.underlying5 Tryd.underlying9 _ _ (RB.out.below hS)).trans (by rw [HTW.out]); clear hW hS; go_simp; try with_reducible rfl)
          simp only [Act.put, tS1, tS2, tS3]
          refine tkA 17 (?_) ?_ (Below.refl _ _) ?_
          rotate_left
          · (intro w1 hS; go_simp; try with_reducible rfl)
          simp only [Act.put, tS1, tS2, tS3]
          refine tkA 18 (?_) ?_ (Below.refl _ _) ?_
          rotate_left
          · (intro w1 hS; go_simp; try with_reducible rfl)
          simp only [Act.put, tS1, tS2, tS3]
          refine wpAnyH_done (by kernel_rfl) ?_ _
          have hy := E1.out
          replace K := Lib.hid (K.out.trans (hy.mono K.out.size))
          replace N := Lib.hid (N.out.below hy N.out.lt)
          clear hy E1
          go_wp2
          go_roundw
          case rel => exact ⟨k + 1, Nat.succ_le_of_lt hlt, by go_num, by rw [← HT.out, ← HE.out], N, K⟩
          case measure => simp [RowKit.intOf]; omega
        · have d0 : decide ((0 : Int) < (k : Int)) = true := decide_eq_true (by omega)
          have d00 : 0 < k := by omega
          have d1 : ((k : Int) % 2 == 0) = false := by rw [beq_eq_false_iff_ne]; omega
          have HE := Lib.hid (ln6_at k (.inr h1))
          rw [HE.out] at hs1 ⊢
          have g1 : ¬ 9223372036854775807 < (⟨(text6to S (at6 k)).toArray⟩ : ByteArray).size + 2 := by rw [hs2]; omega
          clear hs1 hs2 h1
          generalize (⟨(text6to S (at6 k)).toArray⟩ : ByteArray) = X1 at *
          go_wp2_with fail
          go_wp2_with fail
          refine wp_region_held (S := (fun w' : World => Below (wr.heap.size) wr w')) (by kernel_rfl) ?_
          change wpAnyH _ _ _ _ _ _ _ _ wr.drew
          have hy : Below wr.heap.size wr wr.drew := (Below.refl _ _).drew
          have hE0 : Below (wr.heap.size) wr wr.drew := (Below.refl _ _).drew
          clear hy
          generalize wr.drew = Y10x0 at hE0  ⊢
          have E0 := Lib.hid hE0
          clear hE0
          refine tkA 0 (?_) ?_ E0.out ?_
          rotate_left
          · (intro w1 hS; go_simp; try with_reducible rfl)
          simp only [Act.put, tS1, tS2, tS3]
          refine tkA 1 (?_) ?_ E0.out ?_
          rotate_left
          · (intro w1 hS; go_simp; try with_reducible rfl)
          simp only [Act.put, tS1, tS2, tS3]
          refine tkA 2 (?_) ?_ E0.out ?_
          rotate_left
          · (intro w1 hS; go_simp; try with_reducible rfl)
          simp only [Act.put, tS1, tS2, tS3]
          refine tkA 3 (?_) ?_ E0.out ?_
          rotate_left
          · (intro w1 hS; go_simp; try with_reducible rfl)
          simp only [Act.put, tS1, tS2, tS3]
          refine tkA 4 (?_) ?_ E0.out ?_
          rotate_left
          · (intro w1 hS; have hW := hS; have q : (k : Int) < 16 := (by omega); clear hW hS; go_simp; try with_reducible rfl)
          simp only [Act.put, tS1, tS2, tS3]
          refine tkA 5 (?_) ?_ E0.out ?_
          rotate_left
          · (intro w1 hS; have hW := hS; have q := ((N.out.below hW N.out.lt).cell (1 + k)).trans HC.out; clear hW hS; go_simp; try with_reducible rfl)
          simp only [Act.put, tS1, tS2, tS3]
          refine tkA 6 (?_) ?_ E0.out ?_
          rotate_left
          · (intro w1 hS; go_simp; try with_reducible rfl)
          simp only [Act.put, tS1, tS2, tS3]
          refine tkA 7 (?_) ?_ E0.out ?_
          rotate_left
          · (intro w1 hS; have hW := hS; have q := HI.out y hy16 w1; clear hW hS; go_simp; try with_reducible rfl)
          simp only [Act.put, tS1, tS2, tS3]
          refine tkA 8 (?_) ?_ E0.out ?_
          rotate_left
          · (intro w1 hS; go_simp; try with_reducible rfl)
          simp only [Act.put, tS1, tS2, tS3]
          refine tkA 9 (?_) ?_ E0.out ?_
          rotate_left
          · (intro w1 hS; go_simp; try with_reducible rfl)
          simp only [Act.put, tS1, tS2, tS3]
          refine tkA 10 (?_) ?_ E0.out ?_
          rotate_left
          · (intro w1 hS; go_simp; try with_reducible rfl)
          simp only [Act.put, tS1, tS2, tS3]
          refine tkA 11 (?_) ?_ E0.out ?_
          rotate_left
          · (intro w1 hS; have hW := hS; have q : (k : Int) < 16 := (by omega); clear hW hS; go_simp; try with_reducible rfl)
          simp only [Act.put, tS1, tS2, tS3]
          refine tkA 12 (?_) ?_ E0.out ?_
          rotate_left
          · (intro w1 hS; have hW := hS; have q := ((N.out.below hW N.out.lt).cell (1 + k)).trans HC.out; clear hW hS; go_simp; try with_reducible rfl)
          simp only [Act.put, tS1, tS2, tS3]
          refine tkA 13 (?_) ?_ E0.out ?_
          rotate_left
          · (intro w1 hS; go_simp; try with_reducible rfl)
          simp only [Act.put, tS1, tS2, tS3]
          refine tkA 14 (?_) ?_ E0.out ?_
          rotate_left
          · (intro w1 hS; have hW := hS; have q := HI.out z hz16 w1; clear hW hS; go_simp; try with_reducible rfl)
          simp only [Act.put, tS1, tS2, tS3]
          refine tkO 15 (fun KK hK => ?_)
          go_simp
          have hy := (Below.refl Y10x0.heap.size Y10x0).alloc (Nat.le_refl _) (.cells #[Value.int .u8 ((hx y).toNat : Int), .int .u8 ((hx z).toNat : Int)] 5)
          have BB := Blk.new Y10x0 5 #[Value.int .u8 ((hx y).toNat : Int), .int .u8 ((hx z).toNat : Int)]
          obtain ⟨ga, hga⟩ : ∃ g, g = Y10x0.heap.size := ⟨_, rfl⟩
          rw [← hga] at BB
          rw [← hga]
          generalize Y10x0.alloc (.cells #[Value.int .u8 ((hx y).toNat : Int), .int .u8 ((hx z).toNat : Int)] 5) = Y10x1 at BB hy ⊢
          clear hga
          have E1 := Lib.hid (E0.out.trans (hy.mono E0.out.size))
          have C1 := Lib.hid E1.out
          have RB := Lib.hid (rd_two BB)
          clear BB
          clear hy E0
          refine hK.out _ _ C1.out (fun _ => ?_)
          clear hK KK
          refine wpAnyH_mono (S' := (fun w' : World => Below Y10x1.heap.size Y10x1 w')) (fun w1 h => C1.out.trans (h.mono C1.out.size)) _ _ _ _ ?_
          clear C1
          try simp only [Act.put, tS1, tS2, tS3]
          refine tkA 16 (?_) ?_ (Below.refl _ _) ?_
          rotate_left
          · (intro w1 hS; have hW := E1.out.trans (hS.mono E1.out.size); have q := (conv_rd (P := Tryd.prog) w1 28 9 5 Tryd.underlying28 Tryd.underlying5 Tryd.underlying9 _ _ (RB.out.below hS)).trans (by rw [HTW.out]); clear hW hS; go_simp; try with_reducible rfl)
          simp only [Act.put, tS1, tS2, tS3]
          refine tkA 17 (?_) ?_ (Below.refl _ _) ?_
          rotate_left
          · (intro w1 hS; go_simp; try with_reducible rfl)
          simp only [Act.put, tS1, tS2, tS3]
          refine tkA 18 (?_) ?_ (Below.refl _ _) ?_
          rotate_left
          · (intro w1 hS; go_simp; try with_reducible rfl)
          simp only [Act.put, tS1, tS2, tS3]
          refine wpAnyH_done (by kernel_rfl) ?_ _
          have hy := E1.out
          replace K := Lib.hid (K.out.trans (hy.mono K.out.size))
          replace N := Lib.hid (N.out.below hy N.out.lt)
          clear hy E1
          go_wp2
          go_roundw
          case rel => exact ⟨k + 1, Nat.succ_le_of_lt hlt, by go_num, by rw [← HT.out], N, K⟩
          case measure => simp [RowKit.intOf]; omega
    · obtain rfl : k = 16 := by omega
      have d16 : decide (((16 : Nat) : Int) < 16) = false := by decide
      go_wp2
      go_ret
      exact ⟨rfl, K.out⟩
theorem rtext_adr (v : Bool) (S : List Nat) (hl : S.length = 16) (hb : ∀ n ∈ S, n < 256) (w : World) :
    Calls Tryd.prog 38 #[adr v S] w fun e w' => e = .returned (.string ⟨(textA v S).toArray⟩) ∧ Below w.heap.size w w' := by
  cases v with
  | false => exact rtext_four S hl hb w
  | true => exact rtext_six S hl hb w
end Go.Proofs.YthkaadcgiplolaaDoor
namespace Go.Proofs.YthkaadcgiplolaaDoor
open Go.RowKit Go.Lib
set_option maxRecDepth 100000 in
set_option maxHeartbeats 4000000 in
theorem rtext_no (k : Fl) (hk : k.Fit) (hv : vK k = false)  (w : World) :
    Calls Tryd.prog 20 #[.agg k.cs] w fun e w' => e = .returned (.string ⟨(tK k).toArray⟩) ∧ Below w.heap.size w w' := by
  have K := Lib.hid (Below.refl w.heap.size w)
  have CV := Lib.hid (fun W => rvalid_any k hk W)
  rw [hv] at CV
  rw [show tK k = [] from by unfold tK; rw [hv]; rfl]
  obtain ⟨a0, a1, a18, a35, a36⟩ := fl_get k hk
  have G0 := Lib.hid a0
  have G1 := Lib.hid a1
  have G18 := Lib.hid a18
  have G35 := Lib.hid a35
  have G36 := Lib.hid a36
  have KP1 := Lib.hid (fl_src k)
  have KP2 := Lib.hid (fl_dst k hk)
  have IS := Lib.hid (fl_is k hk)
  have ID := Lib.hid (fl_id k hk)
  have IK := Lib.hid (fl_ik k hk)
  clear a0 a1 a18 a35 a36
  generalize k.cs = kc at *
  generalize cellsA k.sv k.S = S at *
  generalize cellsA k.dv k.D = D at *
  generalize k.p = p at *
  generalize k.sv = sv at *
  generalize k.dv = dv at *
  generalize k.sp = sp at *
  generalize k.dp = dp at *
  clear hk hv
  go_enter Tryd.func20, Tryd.ntmps20
  have hal := (Below.refl w.heap.size w).alloc (Nat.le_refl _) (.cells kc 27)
  replace K := Lib.hid (K.out.trans (hal.mono K.out.size))
  have N := Lib.hid (Blk.new w 27 kc)
  clear hal
  have L1 : (loadVar 27 ⟨w.heap.size, 0, none⟩).run Tryd.prog (w.alloc (.cells kc 27)) = .ok (.agg kc) (w.alloc (.cells kc 27)) := run_blk_load (P := Tryd.prog) 27 (w.heap.size) _ N.out Tryd.underlying27 rfl IK.out
  replace L1 := Lib.hid L1
  go_wp2_with (((with_reducible refine wpList_load_want (op := ⟨some 4, .load 27 (.tmp 1), _, _, _, _⟩) ?wg1 27 (.tmp 1) ?wo1 ⟨w.heap.size, 0, none⟩ ?wx1 (.agg kc) L1.out ?_); (case wg1 => rfl); (case wo1 => rfl); (case wx1 => rfl)))
  clear L1
  have hzV1 : Hid ((w.alloc (.cells kc 27)).heap.size = w.heap.size + 1) := by show _ = _; simp only [World.size_alloc]
  generalize (w.alloc (.cells kc 27)) = V1 at *
  refine (CV.out V1).mono ?_
  rintro e V2 ⟨rfl, hy⟩
  replace K := Lib.hid (K.out.trans (hy.mono K.out.size))
  replace N := Lib.hid (N.out.below hy N.out.lt)
  clear hy
  go_wp2
  go_ret
  exact ⟨rfl, K.out⟩
set_option maxRecDepth 100000 in
set_option maxHeartbeats 4000000 in
theorem rtext_6 (k : Fl) (hk : k.Fit) (hv : vK k = true) (hp : k.p = 6) (w : World) :
    Calls Tryd.prog 20 #[.agg k.cs] w fun e w' => e = .returned (.string ⟨(tK k).toArray⟩) ∧ Below w.heap.size w w' := by
  have K := Lib.hid (Below.refl w.heap.size w)
  have CV := Lib.hid (fun W => rvalid_any k hk W)
  rw [hv] at CV
  have C1 := Lib.hid (fun W => rtext_adr k.sv k.S hk.lS hk.bS W)
  have C2 := Lib.hid (fun W => rtext_adr k.dv k.D hk.lD hk.bD W)
  have D1 := Lib.hid (fun W => decimal_any k.sp hk.sp W)
  have D2 := Lib.hid (fun W => decimal_any k.dp hk.dp W)
  have hsp := hk.sp
  have hdp := hk.dp
  have z1 : (⟨(textA k.sv k.S).toArray⟩ : ByteArray).size ≤ 39 := by rw [mk_size]; exact textA_len _ _ hk.lS hk.bS
  have z2 : (⟨(textA k.dv k.D).toArray⟩ : ByteArray).size ≤ 39 := by rw [mk_size]; exact textA_len _ _ hk.lD hk.bD
  have z3 : (⟨(decDigits k.sp).toArray⟩ : ByteArray).size ≤ 5 := by rw [mk_size]; exact dec_len _ hk.sp
  have z4 : (⟨(decDigits k.dp).toArray⟩ : ByteArray).size ≤ 5 := by rw [mk_size]; exact dec_len _ hk.dp
  have HT : Hid (((⟨#[116, 99, 112, 32]⟩ : ByteArray) ++ ⟨(textA k.sv k.S).toArray⟩) ++ ⟨#[58]⟩ ++ ⟨(decDigits k.sp).toArray⟩ ++ ⟨#[32, 62, 32]⟩ ++ ⟨(textA k.dv k.D).toArray⟩ ++ ⟨#[58]⟩ ++ ⟨(decDigits k.dp).toArray⟩ = ⟨(tK k).toArray⟩) := by
    show _ = _
    unfold tK
    rw [hv, if_pos rfl]
    unfold tR endT
    rw [hp]
    apply ByteArray.ext
    simp [pnB]
  obtain ⟨a0, a1, a18, a35, a36⟩ := fl_get k hk
  have G0 := Lib.hid a0
  have G1 := Lib.hid a1
  have G18 := Lib.hid a18
  have G35 := Lib.hid a35
  have G36 := Lib.hid a36
  have KP1 := Lib.hid (fl_src k)
  have KP2 := Lib.hid (fl_dst k hk)
  have IS := Lib.hid (fl_is k hk)
  have ID := Lib.hid (fl_id k hk)
  have IK := Lib.hid (fl_ik k hk)
  clear a0 a1 a18 a35 a36
  rw [hp] at G0
  unfold adr at C1 C2
  generalize (⟨(textA k.sv k.S).toArray⟩ : ByteArray) = E1 at *
  generalize (⟨(textA k.dv k.D).toArray⟩ : ByteArray) = E2 at *
  generalize (⟨(decDigits k.sp).toArray⟩ : ByteArray) = F1 at *
  generalize (⟨(decDigits k.dp).toArray⟩ : ByteArray) = F2 at *
  generalize (⟨(tK k).toArray⟩ : ByteArray) = R at *
  have g1 : ¬ 9223372036854775807 < 4 + E1.size := by omega
  have g2 : ¬ 9223372036854775807 < 4 + E1.size + 1 := by omega
  have g3 : ¬ 9223372036854775807 < 4 + E1.size + 1 + F1.size := by omega
  have g4 : ¬ 9223372036854775807 < 4 + E1.size + 1 + F1.size + 3 := by omega
  have g5 : ¬ 9223372036854775807 < 4 + E1.size + 1 + F1.size + 3 + E2.size := by omega
  have g6 : ¬ 9223372036854775807 < 4 + E1.size + 1 + F1.size + 3 + E2.size + 1 := by omega
  have g7 : ¬ 9223372036854775807 < 4 + E1.size + 1 + F1.size + 3 + E2.size + 1 + F2.size := by omega
  have w1 : IntKind.i64.wrap (k.sp : Int) = (k.sp : Int) := by rw [IntKind.wrap_i64]; omega
  have w2 : IntKind.i64.wrap (k.dp : Int) = (k.dp : Int) := by rw [IntKind.wrap_i64]; omega
  generalize k.cs = kc at *
  generalize cellsA k.sv k.S = S at *
  generalize cellsA k.dv k.D = D at *
  generalize k.p = p at *
  generalize k.sv = sv at *
  generalize k.dv = dv at *
  generalize k.sp = sp at *
  generalize k.dp = dp at *
  clear hk hv z1 z2 z3 z4 hsp hdp hp
  go_enter Tryd.func20, Tryd.ntmps20
  have hal := (Below.refl w.heap.size w).alloc (Nat.le_refl _) (.cells kc 27)
  replace K := Lib.hid (K.out.trans (hal.mono K.out.size))
  have N := Lib.hid (Blk.new w 27 kc)
  clear hal
  have L2 : (loadVar 27 ⟨w.heap.size, 0, none⟩).run Tryd.prog (w.alloc (.cells kc 27)) = .ok (.agg kc) (w.alloc (.cells kc 27)) := run_blk_load (P := Tryd.prog) 27 (w.heap.size) _ N.out Tryd.underlying27 rfl IK.out
  replace L2 := Lib.hid L2
  go_wp2_with (((with_reducible refine wpList_load_want (op := ⟨some 4, .load 27 (.tmp 1), _, _, _, _⟩) ?wg2 27 (.tmp 1) ?wo2 ⟨w.heap.size, 0, none⟩ ?wx2 (.agg kc) L2.out ?_); (case wg2 => rfl); (case wo2 => rfl); (case wx2 => rfl)))
  clear L2
  have hzV1 : Hid ((w.alloc (.cells kc 27)).heap.size = w.heap.size + 1) := by show _ = _; simp only [World.size_alloc]
  generalize (w.alloc (.cells kc 27)) = V1 at *
  refine (CV.out V1).mono ?_
  rintro e V2 ⟨rfl, hy⟩
  replace K := Lib.hid (K.out.trans (hy.mono K.out.size))
  replace N := Lib.hid (N.out.below hy N.out.lt)
  clear hy
  have L3 := (N.out.cell 0).trans G0.out
  go_wp2_with fail
  clear L3
  refine wp_region_held (S := (fun w' : World => Below (V2.heap.size) V2 w')) (by kernel_rfl) ?_
  change wpAnyH _ _ _ _ _ _ _ _ V2.drew
  have hy : Below V2.heap.size V2 V2.drew := (Below.refl _ _).drew
  have hE0 : Below (V2.heap.size) V2 V2.drew := (Below.refl _ _).drew
  clear hy
  generalize V2.drew = Y6x0 at hE0  ⊢
  have E0 := Lib.hid hE0
  clear hE0
  refine tkA 0 (?_) ?_ E0.out ?_
  rotate_left
  · (intro w1 hS; go_simp; try with_reducible rfl)
  simp only [Act.put, tS1, tS2, tS3]
  refine tkA 1 (?_) ?_ E0.out ?_
  rotate_left
  · (intro w1 hS; go_simp; try with_reducible rfl)
  simp only [Act.put, tS1, tS2, tS3]
  refine tkA 2 (.agg S) ?_ E0.out ?_
  · (intro w1 hS; have hW := hS; exact exec_load 24 (.tmp 11) rfl _ rfl _ (by have h := run_part_load (P := Tryd.prog) 24 1 S.toList _ (N.out.below hW N.out.lt) KP1.out Tryd.underlying24 rfl IS.out; rwa [Array.toArray_toList] at h))
  simp only [Act.put, tS1, tS2, tS3]
  refine tkA 6 (?_) ?_ E0.out ?_
  rotate_left
  · (intro w1 hS; go_simp; try with_reducible rfl)
  simp only [Act.put, tS1, tS2, tS3]
  refine tkA 7 (?_) ?_ E0.out ?_
  rotate_left
  · (intro w1 hS; have hW := hS; have q := ((N.out.below hW N.out.lt).cell 35).trans G35.out; clear hW hS; go_simp; try with_reducible rfl)
  simp only [Act.put, tS1, tS2, tS3]
  refine tkA 8 (?_) ?_ E0.out ?_
  rotate_left
  · (intro w1 hS; go_simp; try with_reducible rfl)
  simp only [Act.put, tS1, tS2, tS3]
  refine tkA 12 (?_) ?_ E0.out ?_
  rotate_left
  · (intro w1 hS; go_simp; try with_reducible rfl)
  simp only [Act.put, tS1, tS2, tS3]
  refine tkA 13 (.agg D) ?_ E0.out ?_
  · (intro w1 hS; have hW := hS; exact exec_load 24 (.tmp 22) rfl _ rfl _ (by have h := run_part_load (P := Tryd.prog) 24 18 D.toList _ (N.out.below hW N.out.lt) KP2.out Tryd.underlying24 rfl ID.out; rwa [Array.toArray_toList] at h))
  simp only [Act.put, tS1, tS2, tS3]
  refine tkA 17 (?_) ?_ E0.out ?_
  rotate_left
  · (intro w1 hS; go_simp; try with_reducible rfl)
  simp only [Act.put, tS1, tS2, tS3]
  refine tkA 18 (?_) ?_ E0.out ?_
  rotate_left
  · (intro w1 hS; have hW := hS; have q := ((N.out.below hW N.out.lt).cell 36).trans G36.out; clear hW hS; go_simp; try with_reducible rfl)
  simp only [Act.put, tS1, tS2, tS3]
  refine tkA 19 (?_) ?_ E0.out ?_
  rotate_left
  · (intro w1 hS; go_simp; try with_reducible rfl)
  simp only [Act.put, tS1, tS2, tS3]
  refine tkO 3 (fun KK hK => ?_)
  go_simp
  refine (C1.out Y6x0).mono ?_
  rintro e Y6x1 ⟨rfl, hy⟩
  have E1 := Lib.hid (E0.out.trans (hy.mono E0.out.size))
  have C1 := Lib.hid E1.out
  clear hy E0
  refine hK.out _ _ C1.out (fun _ => ?_)
  clear hK KK
  refine wpAnyH_mono (S' := (fun w' : World => Below Y6x1.heap.size Y6x1 w')) (fun w1 h => C1.out.trans (h.mono C1.out.size)) _ _ _ _ ?_
  clear C1
  try simp only [Act.put, tS1, tS2, tS3]
  refine tkA 4 (?_) ?_ (Below.refl _ _) ?_
  rotate_left
  · (intro w1 hS; go_simp; try with_reducible rfl)
  simp only [Act.put, tS1, tS2, tS3]
  refine tkA 5 (?_) ?_ (Below.refl _ _) ?_
  rotate_left
  · (intro w1 hS; go_simp; try with_reducible rfl)
  simp only [Act.put, tS1, tS2, tS3]
  refine tkO 9 (fun KK hK => ?_)
  go_simp
  refine (D1.out Y6x1).mono ?_
  rintro e Y6x2 ⟨rfl, hy⟩
  have E2 := Lib.hid (E1.out.trans (hy.mono E1.out.size))
  have C2 := Lib.hid hy
  clear hy E1
  refine hK.out _ _ C2.out (fun _ => ?_)
  clear hK KK
  refine wpAnyH_mono (S' := (fun w' : World => Below Y6x2.heap.size Y6x2 w')) (fun w1 h => C2.out.trans (h.mono C2.out.size)) _ _ _ _ ?_
  clear C2
  try simp only [Act.put, tS1, tS2, tS3]
  refine tkA 10 (?_) ?_ (Below.refl _ _) ?_
  rotate_left
  · (intro w1 hS; go_simp; try with_reducible rfl)
  simp only [Act.put, tS1, tS2, tS3]
  refine tkA 11 (?_) ?_ (Below.refl _ _) ?_
  rotate_left
  · (intro w1 hS; go_simp; try with_reducible rfl)
  simp only [Act.put, tS1, tS2, tS3]
  refine tkO 14 (fun KK hK => ?_)
  go_simp
  refine (C2.out Y6x2).mono ?_
  rintro e Y6x3 ⟨rfl, hy⟩
  have E3 := Lib.hid (E2.out.trans (hy.mono E2.out.size))
  have C3 := Lib.hid hy
  clear hy E2
  refine hK.out _ _ C3.out (fun _ => ?_)
  clear hK KK
  refine wpAnyH_mono (S' := (fun w' : World => Below Y6x3.heap.size Y6x3 w')) (fun w1 h => C3.out.trans (h.mono C3.out.size)) _ _ _ _ ?_
  clear C3
  try simp only [Act.put, tS1, tS2, tS3]
  refine tkA 15 (?_) ?_ (Below.refl _ _) ?_
  rotate_left
  · (intro w1 hS; go_simp; try with_reducible rfl)
  simp only [Act.put, tS1, tS2, tS3]
  refine tkA 16 (?_) ?_ (Below.refl _ _) ?_
  rotate_left
  · (intro w1 hS; go_simp; try with_reducible rfl)
  simp only [Act.put, tS1, tS2, tS3]
  refine tkO 20 (fun KK hK => ?_)
  go_simp
  refine (D2.out Y6x3).mono ?_
  rintro e Y6x4 ⟨rfl, hy⟩
  have E4 := Lib.hid (E3.out.trans (hy.mono E3.out.size))
  have C4 := Lib.hid hy
  clear hy E3
  refine hK.out _ _ C4.out (fun _ => ?_)
  clear hK KK
  refine wpAnyH_mono (S' := (fun w' : World => Below Y6x4.heap.size Y6x4 w')) (fun w1 h => C4.out.trans (h.mono C4.out.size)) _ _ _ _ ?_
  clear C4
  try simp only [Act.put, tS1, tS2, tS3]
  refine tkA 21 (?_) ?_ (Below.refl _ _) ?_
  rotate_left
  · (intro w1 hS; go_simp; try with_reducible rfl)
  simp only [Act.put, tS1, tS2, tS3]
  refine tkA 22 (?_) ?_ (Below.refl _ _) ?_
  rotate_left
  · (intro w1 hS; go_simp; try with_reducible rfl)
  simp only [Act.put, tS1, tS2, tS3]
  refine wpAnyH_done (by kernel_rfl) ?_ _
  have hy := E4.out
  replace K := Lib.hid (K.out.trans (hy.mono K.out.size))
  replace N := Lib.hid (N.out.below hy N.out.lt)
  clear hy E4
  go_wp2
  go_ret
  exact ⟨by rw [← HT.out]; rfl, K.out⟩
set_option maxRecDepth 100000 in
set_option maxHeartbeats 4000000 in
theorem rtext_17 (k : Fl) (hk : k.Fit) (hv : vK k = true) (hp : k.p = 17) (w : World) :
    Calls Tryd.prog 20 #[.agg k.cs] w fun e w' => e = .returned (.string ⟨(tK k).toArray⟩) ∧ Below w.heap.size w w' := by
  have K := Lib.hid (Below.refl w.heap.size w)
  have CV := Lib.hid (fun W => rvalid_any k hk W)
  rw [hv] at CV
  have C1 := Lib.hid (fun W => rtext_adr k.sv k.S hk.lS hk.bS W)
  have C2 := Lib.hid (fun W => rtext_adr k.dv k.D hk.lD hk.bD W)
  have D1 := Lib.hid (fun W => decimal_any k.sp hk.sp W)
  have D2 := Lib.hid (fun W => decimal_any k.dp hk.dp W)
  have hsp := hk.sp
  have hdp := hk.dp
  have z1 : (⟨(textA k.sv k.S).toArray⟩ : ByteArray).size ≤ 39 := by rw [mk_size]; exact textA_len _ _ hk.lS hk.bS
  have z2 : (⟨(textA k.dv k.D).toArray⟩ : ByteArray).size ≤ 39 := by rw [mk_size]; exact textA_len _ _ hk.lD hk.bD
  have z3 : (⟨(decDigits k.sp).toArray⟩ : ByteArray).size ≤ 5 := by rw [mk_size]; exact dec_len _ hk.sp
  have z4 : (⟨(decDigits k.dp).toArray⟩ : ByteArray).size ≤ 5 := by rw [mk_size]; exact dec_len _ hk.dp
  have HT : Hid (((⟨#[117, 100, 112, 32]⟩ : ByteArray) ++ ⟨(textA k.sv k.S).toArray⟩) ++ ⟨#[58]⟩ ++ ⟨(decDigits k.sp).toArray⟩ ++ ⟨#[32, 62, 32]⟩ ++ ⟨(textA k.dv k.D).toArray⟩ ++ ⟨#[58]⟩ ++ ⟨(decDigits k.dp).toArray⟩ = ⟨(tK k).toArray⟩) := by
    show _ = _
    unfold tK
    rw [hv, if_pos rfl]
    unfold tR endT
    rw [hp]
    apply ByteArray.ext
    simp [pnB]
  obtain ⟨a0, a1, a18, a35, a36⟩ := fl_get k hk
  have G0 := Lib.hid a0
  have G1 := Lib.hid a1
  have G18 := Lib.hid a18
  have G35 := Lib.hid a35
  have G36 := Lib.hid a36
  have KP1 := Lib.hid (fl_src k)
  have KP2 := Lib.hid (fl_dst k hk)
  have IS := Lib.hid (fl_is k hk)
  have ID := Lib.hid (fl_id k hk)
  have IK := Lib.hid (fl_ik k hk)
  clear a0 a1 a18 a35 a36
  rw [hp] at G0
  unfold adr at C1 C2
  generalize (⟨(textA k.sv k.S).toArray⟩ : ByteArray) = E1 at *
  generalize (⟨(textA k.dv k.D).toArray⟩ : ByteArray) = E2 at *
  generalize (⟨(decDigits k.sp).toArray⟩ : ByteArray) = F1 at *
  generalize (⟨(decDigits k.dp).toArray⟩ : ByteArray) = F2 at *
  generalize (⟨(tK k).toArray⟩ : ByteArray) = R at *
  have g1 : ¬ 9223372036854775807 < 4 + E1.size := by omega
  have g2 : ¬ 9223372036854775807 < 4 + E1.size + 1 := by omega
  have g3 : ¬ 9223372036854775807 < 4 + E1.size + 1 + F1.size := by omega
  have g4 : ¬ 9223372036854775807 < 4 + E1.size + 1 + F1.size + 3 := by omega
  have g5 : ¬ 9223372036854775807 < 4 + E1.size + 1 + F1.size + 3 + E2.size := by omega
  have g6 : ¬ 9223372036854775807 < 4 + E1.size + 1 + F1.size + 3 + E2.size + 1 := by omega
  have g7 : ¬ 9223372036854775807 < 4 + E1.size + 1 + F1.size + 3 + E2.size + 1 + F2.size := by omega
  have w1 : IntKind.i64.wrap (k.sp : Int) = (k.sp : Int) := by rw [IntKind.wrap_i64]; omega
  have w2 : IntKind.i64.wrap (k.dp : Int) = (k.dp : Int) := by rw [IntKind.wrap_i64]; omega
  generalize k.cs = kc at *
  generalize cellsA k.sv k.S = S at *
  generalize cellsA k.dv k.D = D at *
  generalize k.p = p at *
  generalize k.sv = sv at *
  generalize k.dv = dv at *
  generalize k.sp = sp at *
  generalize k.dp = dp at *
  clear hk hv z1 z2 z3 z4 hsp hdp hp
  go_enter Tryd.func20, Tryd.ntmps20
  have hal := (Below.refl w.heap.size w).alloc (Nat.le_refl _) (.cells kc 27)
  replace K := Lib.hid (K.out.trans (hal.mono K.out.size))
  have N := Lib.hid (Blk.new w 27 kc)
  clear hal
  have L4 : (loadVar 27 ⟨w.heap.size, 0, none⟩).run Tryd.prog (w.alloc (.cells kc 27)) = .ok (.agg kc) (w.alloc (.cells kc 27)) := run_blk_load (P := Tryd.prog) 27 (w.heap.size) _ N.out Tryd.underlying27 rfl IK.out
  replace L4 := Lib.hid L4
  go_wp2_with (((with_reducible refine wpList_load_want (op := ⟨some 4, .load 27 (.tmp 1), _, _, _, _⟩) ?wg4 27 (.tmp 1) ?wo4 ⟨w.heap.size, 0, none⟩ ?wx4 (.agg kc) L4.out ?_); (case wg4 => rfl); (case wo4 => rfl); (case wx4 => rfl)))
  clear L4
  have hzV1 : Hid ((w.alloc (.cells kc 27)).heap.size = w.heap.size + 1) := by show _ = _; simp only [World.size_alloc]
  generalize (w.alloc (.cells kc 27)) = V1 at *
  refine (CV.out V1).mono ?_
  rintro e V2 ⟨rfl, hy⟩
  replace K := Lib.hid (K.out.trans (hy.mono K.out.size))
  replace N := Lib.hid (N.out.below hy N.out.lt)
  clear hy
  have L5 := (N.out.cell 0).trans G0.out
  go_wp2_with fail
  clear L5
  refine wp_region_held (S := (fun w' : World => Below (V2.heap.size) V2 w')) (by kernel_rfl) ?_
  change wpAnyH _ _ _ _ _ _ _ _ V2.drew
  have hy : Below V2.heap.size V2 V2.drew := (Below.refl _ _).drew
  have hE0 : Below (V2.heap.size) V2 V2.drew := (Below.refl _ _).drew
  clear hy
  generalize V2.drew = Y6x0 at hE0  ⊢
  have E0 := Lib.hid hE0
  clear hE0
  refine tkA 0 (?_) ?_ E0.out ?_
  rotate_left
  · (intro w1 hS; go_simp; try with_reducible rfl)
  simp only [Act.put, tS1, tS2, tS3]
  refine tkA 1 (?_) ?_ E0.out ?_
  rotate_left
  · (intro w1 hS; go_simp; try with_reducible rfl)
  simp only [Act.put, tS1, tS2, tS3]
  refine tkA 2 (.agg S) ?_ E0.out ?_
  · (intro w1 hS; have hW := hS; exact exec_load 24 (.tmp 11) rfl _ rfl _ (by have h := run_part_load (P := Tryd.prog) 24 1 S.toList _ (N.out.below hW N.out.lt) KP1.out Tryd.underlying24 rfl IS.out; rwa [Array.toArray_toList] at h))
  simp only [Act.put, tS1, tS2, tS3]
  refine tkA 6 (?_) ?_ E0.out ?_
  rotate_left
  · (intro w1 hS; go_simp; try with_reducible rfl)
  simp only [Act.put, tS1, tS2, tS3]
  refine tkA 7 (?_) ?_ E0.out ?_
  rotate_left
  · (intro w1 hS; have hW := hS; have q := ((N.out.below hW N.out.lt).cell 35).trans G35.out; clear hW hS; go_simp; try with_reducible rfl)
  simp only [Act.put, tS1, tS2, tS3]
  refine tkA 8 (?_) ?_ E0.out ?_
  rotate_left
  · (intro w1 hS; go_simp; try with_reducible rfl)
  simp only [Act.put, tS1, tS2, tS3]
  refine tkA 12 (?_) ?_ E0.out ?_
  rotate_left
  · (intro w1 hS; go_simp; try with_reducible rfl)
  simp only [Act.put, tS1, tS2, tS3]
  refine tkA 13 (.agg D) ?_ E0.out ?_
  · (intro w1 hS; have hW := hS; exact exec_load 24 (.tmp 22) rfl _ rfl _ (by have h := run_part_load (P := Tryd.prog) 24 18 D.toList _ (N.out.below hW N.out.lt) KP2.out Tryd.underlying24 rfl ID.out; rwa [Array.toArray_toList] at h))
  simp only [Act.put, tS1, tS2, tS3]
  refine tkA 17 (?_) ?_ E0.out ?_
  rotate_left
  · (intro w1 hS; go_simp; try with_reducible rfl)
  simp only [Act.put, tS1, tS2, tS3]
  refine tkA 18 (?_) ?_ E0.out ?_
  rotate_left
  · (intro w1 hS; have hW := hS; have q := ((N.out.below hW N.out.lt).cell 36).trans G36.out; clear hW hS; go_simp; try with_reducible rfl)
  simp only [Act.put, tS1, tS2, tS3]
  refine tkA 19 (?_) ?_ E0.out ?_
  rotate_left
  · (intro w1 hS; go_simp; try with_reducible rfl)
  simp only [Act.put, tS1, tS2, tS3]
  refine tkO 3 (fun KK hK => ?_)
  go_simp
  refine (C1.out Y6x0).mono ?_
  rintro e Y6x1 ⟨rfl, hy⟩
  have E1 := Lib.hid (E0.out.trans (hy.mono E0.out.size))
  have C1 := Lib.hid E1.out
  clear hy E0
  refine hK.out _ _ C1.out (fun _ => ?_)
  clear hK KK
  refine wpAnyH_mono (S' := (fun w' : World => Below Y6x1.heap.size Y6x1 w')) (fun w1 h => C1.out.trans (h.mono C1.out.size)) _ _ _ _ ?_
  clear C1
  try simp only [Act.put, tS1, tS2, tS3]
  refine tkA 4 (?_) ?_ (Below.refl _ _) ?_
  rotate_left
  · (intro w1 hS; go_simp; try with_reducible rfl)
  simp only [Act.put, tS1, tS2, tS3]
  refine tkA 5 (?_) ?_ (Below.refl _ _) ?_
  rotate_left
  · (intro w1 hS; go_simp; try with_reducible rfl)
  simp only [Act.put, tS1, tS2, tS3]
  refine tkO 9 (fun KK hK => ?_)
  go_simp
  refine (D1.out Y6x1).mono ?_
  rintro e Y6x2 ⟨rfl, hy⟩
  have E2 := Lib.hid (E1.out.trans (hy.mono E1.out.size))
  have C2 := Lib.hid hy
  clear hy E1
  refine hK.out _ _ C2.out (fun _ => ?_)
  clear hK KK
  refine wpAnyH_mono (S' := (fun w' : World => Below Y6x2.heap.size Y6x2 w')) (fun w1 h => C2.out.trans (h.mono C2.out.size)) _ _ _ _ ?_
  clear C2
  try simp only [Act.put, tS1, tS2, tS3]
  refine tkA 10 (?_) ?_ (Below.refl _ _) ?_
  rotate_left
  · (intro w1 hS; go_simp; try with_reducible rfl)
  simp only [Act.put, tS1, tS2, tS3]
  refine tkA 11 (?_) ?_ (Below.refl _ _) ?_
  rotate_left
  · (intro w1 hS; go_simp; try with_reducible rfl)
  simp only [Act.put, tS1, tS2, tS3]
  refine tkO 14 (fun KK hK => ?_)
  go_simp
  refine (C2.out Y6x2).mono ?_
  rintro e Y6x3 ⟨rfl, hy⟩
  have E3 := Lib.hid (E2.out.trans (hy.mono E2.out.size))
  have C3 := Lib.hid hy
  clear hy E2
  refine hK.out _ _ C3.out (fun _ => ?_)
  clear hK KK
  refine wpAnyH_mono (S' := (fun w' : World => Below Y6x3.heap.size Y6x3 w')) (fun w1 h => C3.out.trans (h.mono C3.out.size)) _ _ _ _ ?_
  clear C3
  try simp only [Act.put, tS1, tS2, tS3]
  refine tkA 15 (?_) ?_ (Below.refl _ _) ?_
  rotate_left
  · (intro w1 hS; go_simp; try with_reducible rfl)
  simp only [Act.put, tS1, tS2, tS3]
  refine tkA 16 (?_) ?_ (Below.refl _ _) ?_
  rotate_left
  · (intro w1 hS; go_simp; try with_reducible rfl)
  simp only [Act.put, tS1, tS2, tS3]
  refine tkO 20 (fun KK hK => ?_)
  go_simp
  refine (D2.out Y6x3).mono ?_
  rintro e Y6x4 ⟨rfl, hy⟩
  have E4 := Lib.hid (E3.out.trans (hy.mono E3.out.size))
  have C4 := Lib.hid hy
  clear hy E3
  refine hK.out _ _ C4.out (fun _ => ?_)
  clear hK KK
  refine wpAnyH_mono (S' := (fun w' : World => Below Y6x4.heap.size Y6x4 w')) (fun w1 h => C4.out.trans (h.mono C4.out.size)) _ _ _ _ ?_
  clear C4
  try simp only [Act.put, tS1, tS2, tS3]
  refine tkA 21 (?_) ?_ (Below.refl _ _) ?_
  rotate_left
  · (intro w1 hS; go_simp; try with_reducible rfl)
  simp only [Act.put, tS1, tS2, tS3]
  refine tkA 22 (?_) ?_ (Below.refl _ _) ?_
  rotate_left
  · (intro w1 hS; go_simp; try with_reducible rfl)
  simp only [Act.put, tS1, tS2, tS3]
  refine wpAnyH_done (by kernel_rfl) ?_ _
  have hy := E4.out
  replace K := Lib.hid (K.out.trans (hy.mono K.out.size))
  replace N := Lib.hid (N.out.below hy N.out.lt)
  clear hy E4
  go_wp2
  go_ret
  exact ⟨by rw [← HT.out]; rfl, K.out⟩
theorem rtext_any (k : Fl) (hk : k.Fit) (w : World) : Calls Tryd.prog 20 #[.agg k.cs] w fun e w' => e = .returned (.string ⟨(tK k).toArray⟩) ∧ Below w.heap.size w w' := by
  cases hv : vK k with
  | false => exact rtext_no k hk hv w
  | true =>
    rcases (vK_yes hv).1 with h | h
    · exact rtext_6 k hk hv h w
    · exact rtext_17 k hk hv h w
end Go.Proofs.YthkaadcgiplolaaDoor
namespace Go.Proofs.YthkaadcgiplolaaDoor
open Go.ChangeShapes Go.WideShapes Go.ChangeAt Go.RowKit
theorem own : ownKnob Tryd.prog.godebug = none := by kernel_rfl
theorem gTab : Tryd.prog.globalNamed "internal/strconv.uint64pow10" = some 1 := by kernel_rfl
theorem gTabType : (Tryd.prog.globals[1]?).map (·.type) = some 89 := by kernel_rfl
theorem env_of {W : World} (h : laidMet Tryd.prog [("math/bits.deBruijn32tab", Rows.laid_math_bits_deBruijn32tab), ("math/bits.deBruijn64tab", Rows.laid_math_bits_deBruijn64tab), ("internal/strconv.uint64pow10", Rows.laid_internal_strconv_uint64pow10)] W) : Env W := by
  have ht : laidMet Tryd.prog [("internal/strconv.uint64pow10", Lib.tabData .u64 Lib.pow10Tab)] W := h.filter fun x => x.1 == "internal/strconv.uint64pow10"
  exact ⟨Lib.tabIs_of_head (rest := []) gTab gTabType Tryd.underlying89 Tryd.underlying70 (by kernel_rfl) (by kernel_rfl) ht⟩
theorem wf_u16 (n : Int) (h : (Lit.int .u16 n).wf = true) : 0 ≤ n ∧ n < (65536 : Nat) := by have := bounds_u16 h; omega
set_option maxRecDepth 100000 in
theorem addr_open {H : Type} {enc : TypeId × Value → H} {W : World} {base fuel : Nat} {spare : Nat → Bool} {held : Bool} {l : List Value} {x : DataW H × List MemPlace}
    (hf : DataW.trod enc Tryd.prog W base spare held fuel 24 l = some x) : ∃ b bs, l = (cellsA b bs).toList ∧ bs.length = 16 ∧ ∀ n ∈ bs, n < 256 := by
  have hC : Tryd.prog.cellsOf 24 = 17 := by kernel_rfl
  obtain ⟨y0, y1, n, _, hl, h0, h1⟩ := trod_struct2 Tryd.underlying24 hf
  have hc4 : Tryd.prog.cellsOf 4 = 1 := by kernel_rfl
  have hc5 : Tryd.prog.cellsOf 5 = 1 := by kernel_rfl
  have hc22 : Tryd.prog.cellsOf 22 = 16 := by kernel_rfl
  rw [hC] at hl
  have h0 : DataW.trod enc Tryd.prog W base spare held n 4 ((l.drop 0).take (Tryd.prog.cellsOf 4)) = some y0 := h0
  have h1 : DataW.trod enc Tryd.prog W base spare held n 22 ((l.drop 1).take (Tryd.prog.cellsOf 22)) = some y1 := h1
  rw [hc4] at h0
  rw [hc22] at h1
  obtain ⟨b, e0, _⟩ := DataW.trod_bool Tryd.underlying4 h0
  obtain ⟨xs, m, _, _, hl1, hx, hi⟩ := DataW.trod_array Tryd.underlying22 h1
  match l, hl with
  | c :: r, hl =>
    simp only [List.length_cons] at hl
    have hl : r.length = 16 := by omega
    have e0 : c = .bool b := by simpa using e0
    subst e0
    have hrr : List.take 16 (List.drop 1 (Value.bool b :: r)) = r := by simp [List.take_of_length_le (Nat.le_of_eq hl)]
    rw [hrr] at hi
    have hn : ∀ i, i < 16 → ∃ z : Nat, r[i]? = some (.int .u8 (z : Int)) ∧ z < 256 := fun i hi16 => by
      have h := hi i hi16
      rw [hc5, Nat.mul_one] at h
      rw [List.getElem?_eq_getElem (by omega)] at h
      obtain ⟨z, ez, _, hw⟩ := DataW.trod_int Tryd.underlying5 h
      obtain ⟨z0, z1⟩ := wf_u8 z hw
      have e : r[i]? = some (.int .u8 z) := by
        have := congrArg (·[0]?) ez
        simpa [List.getElem?_take, List.getElem?_drop] using this
      refine ⟨z.toNat, ?_, by omega⟩
      rw [e, Int.toNat_of_nonneg z0]
    refine ⟨b, r.map fun x => match x with | .int _ z => z.toNat | _ => 0, ?_, by simpa using hl, ?_⟩
    · unfold cellsA
      simp only
      congr 1
      rw [List.map_map]
      refine (List.map_id r).symm.trans (List.map_congr_left fun x hx => ?_)
      obtain ⟨i, hi', ex⟩ := List.mem_iff_getElem.1 hx
      obtain ⟨z, ez, _⟩ := hn i (by omega)
      rw [List.getElem?_eq_getElem hi', ex] at ez
      obtain rfl := Option.some.inj ez
      simp
    · intro q hq
      obtain ⟨x, hx, rfl⟩ := List.mem_map.1 hq
      obtain ⟨i, hi', ex⟩ := List.mem_iff_getElem.1 hx
      obtain ⟨z, ez, hz⟩ := hn i (by omega)
      rw [List.getElem?_eq_getElem hi', ex] at ez
      obtain rfl := Option.some.inj ez
      simpa using hz
theorem cut_at {α : Type} (l : List α) (a b : Nat) : l.drop a = (l.drop a).take b ++ l.drop (a + b) := by rw [← List.drop_drop, List.take_append_drop]
set_option maxRecDepth 100000 in
theorem open_key {H : Type} {enc : TypeId × Value → H} {W : World} {base b0 : Nat} {spare : Nat → Bool} {held : Bool} {r : Reach} {v : Value} {d : DataW H} {p : List MemPlace}
    (hv : Value.okWide Tryd.prog W r b0 27 v) (h : DataW.Trod enc Tryd.prog W base spare held 27 v d p) : ∃ k : Fl, v = .agg k.cs ∧ k.Fit := by
  obtain ⟨cs, rfl, hsz⟩ := okWide_struct Tryd.underlying27 hv
  have hC : Tryd.prog.cellsOf 27 = 37 := by kernel_rfl
  have hc5 : Tryd.prog.cellsOf 5 = 1 := by kernel_rfl
  have hc24 : Tryd.prog.cellsOf 24 = 17 := by kernel_rfl
  have hc25 : Tryd.prog.cellsOf 25 = 1 := by kernel_rfl
  obtain ⟨fuel, hf⟩ := h
  obtain ⟨l⟩ := cs
  replace hf : DataW.trod enc Tryd.prog W base spare held fuel 27 l = some (d, p) := hf
  obtain ⟨xs, n, _, _, hl, hlen, hx⟩ := DataW.trod_struct Tryd.underlying27 hf
  replace hl : l.length = 37 := hl.trans hC
  match xs, hlen with
  | [y0, y1, y2, y3, y4], _ =>
    have h0 : DataW.trod enc Tryd.prog W base spare held n 5 ((l.drop 0).take (Tryd.prog.cellsOf 5)) = some y0 := by simpa using hx 0 _ rfl
    have h1 : DataW.trod enc Tryd.prog W base spare held n 24 ((l.drop 1).take (Tryd.prog.cellsOf 24)) = some y1 := by simpa using hx 1 _ rfl
    have h2 : DataW.trod enc Tryd.prog W base spare held n 24 ((l.drop 18).take (Tryd.prog.cellsOf 24)) = some y2 := by simpa using hx 2 _ rfl
    have h3 : DataW.trod enc Tryd.prog W base spare held n 25 ((l.drop 35).take (Tryd.prog.cellsOf 25)) = some y3 := by simpa using hx 3 _ rfl
    have h4 : DataW.trod enc Tryd.prog W base spare held n 25 ((l.drop 36).take (Tryd.prog.cellsOf 25)) = some y4 := by simpa using hx 4 _ rfl
    rw [hc5] at h0
    rw [hc24] at h1 h2
    rw [hc25] at h3 h4
    obtain ⟨z0, e0, _, w0⟩ := DataW.trod_int Tryd.underlying5 h0
    obtain ⟨z3, e3, _, w3⟩ := DataW.trod_int Tryd.underlying25 h3
    obtain ⟨z4, e4, _, w4⟩ := DataW.trod_int Tryd.underlying25 h4
    obtain ⟨sv, S, e1, lS, bS⟩ := addr_open h1
    obtain ⟨dv, D, e2, lD, bD⟩ := addr_open h2
    obtain ⟨p0, p1⟩ := wf_u8 z0 w0
    obtain ⟨s0, s1⟩ := wf_u16 z3 w3
    obtain ⟨d0, d1⟩ := wf_u16 z4 w4
    refine ⟨⟨z0.toNat, sv, S, dv, D, z3.toNat, z4.toNat⟩, ?_, ⟨by show z0.toNat < 256; omega, lS, lD, bS, bD, by show z3.toNat < 65536; omega, by show z4.toNat < 65536; omega⟩⟩
    unfold Fl.cs kcells
    congr 2
    have q := cut_at l 0 1
    rw [cut_at l (0 + 1) 17, cut_at l (0 + 1 + 17) 17, cut_at l (0 + 1 + 17 + 17) 1, cut_at l (0 + 1 + 17 + 17 + 1) 1, List.drop_eq_nil_of_le (show l.length ≤ 0 + 1 + 17 + 17 + 1 + 1 by omega)] at q
    rw [List.drop_zero] at q e0
    rw [q]
    simp only [Nat.zero_add, Nat.reduceAdd]
    rw [e0, e1, e2, e3, e4, Int.toNat_of_nonneg p0, Int.toNat_of_nonneg s0, Int.toNat_of_nonneg d0]
    simp
end Go.Proofs.YthkaadcgiplolaaDoor
namespace Go.Proofs.YthkaadcgiplolaaDoor
open Go.RowKit Go.Lib
theorem split_first (c : UInt8) : ∀ (a b r s : List UInt8), (∀ x ∈ a, x ≠ c) → (∀ x ∈ b, x ≠ c) → a ++ c :: r = b ++ c :: s → a = b ∧ r = s
  | [], [], r, s, _, _, h => by simpa using h
  | [], y :: b, r, s, _, hb, h => by
    simp only [List.nil_append, List.cons_append, List.cons.injEq] at h
    exact absurd h.1.symm (hb y (by simp))
  | x :: a, [], r, s, ha, _, h => by
    simp only [List.nil_append, List.cons_append, List.cons.injEq] at h
    exact absurd h.1 (ha x (by simp))
  | x :: a, y :: b, r, s, ha, hb, h => by
    simp only [List.cons_append, List.cons.injEq] at h
    obtain ⟨h1, h2⟩ := split_first c a b r s (fun z hz => ha z (by simp [hz])) (fun z hz => hb z (by simp [hz])) h.2
    exact ⟨by rw [h.1, h1], h2⟩
theorem split_last (c : UInt8) (a b r s : List UInt8) (hr : ∀ x ∈ r, x ≠ c) (hs : ∀ x ∈ s, x ≠ c) (h : a ++ c :: r = b ++ c :: s) : a = b ∧ r = s := by
  have q := congrArg List.reverse h
  simp only [List.reverse_append, List.reverse_cons, List.append_assoc, List.singleton_append] at q
  obtain ⟨h1, h2⟩ := split_first c r.reverse s.reverse a.reverse b.reverse (fun x hx => hr x (List.mem_reverse.1 hx)) (fun x hx => hs x (List.mem_reverse.1 hx)) q
  exact ⟨List.reverse_inj.1 h2, List.reverse_inj.1 h1⟩
theorem dg_byte : ∀ d : Fin 10, (UInt8.ofNat (48 + d.1)).toNat = 48 + d.1 := by decide +kernel
theorem dec_all (u : Nat) : ∀ x ∈ decDigits u, 48 ≤ x.toNat ∧ x.toNat < 58 := by
  induction u using Nat.strongRecOn with
  | _ u ih =>
    intro x hx
    by_cases h : u < 10
    · rw [decDigits, dif_pos h] at hx
      have q := dg_byte ⟨u, h⟩
      rw [List.mem_singleton.1 hx]
      simp only at q
      omega
    · rw [decDigits, dif_neg h, List.mem_append, List.mem_singleton] at hx
      rcases hx with hx | rfl
      · exact ih (u / 10) (by omega) x hx
      · have q := dg_byte ⟨u % 10, by omega⟩
        simp only at q
        omega
theorem dec_not (u : Nat) (c : UInt8) (hc : c.toNat < 48 ∨ 58 ≤ c.toNat) : ∀ x ∈ decDigits u, x ≠ c := by
  rintro x hx rfl
  have := dec_all u x hx
  omega
theorem dec_inj : ∀ (u v : Nat), decDigits u = decDigits v → u = v := by
  intro u
  induction u using Nat.strongRecOn with
  | _ u ih =>
    intro v h
    by_cases hu : u < 10
    · by_cases hv : v < 10
      · rw [decDigits, dif_pos hu, decDigits, dif_pos hv] at h
        have q1 := dg_byte ⟨u, hu⟩
        have q2 := dg_byte ⟨v, hv⟩
        simp only [List.cons.injEq, and_true] at h q1 q2
        rw [h] at q1
        omega
      · exfalso
        have q := congrArg List.length h
        rw [decDigits_length, decDigits_length, nDigits_small hu, nDigits_big hv] at q
        have := nDigits_pos (v / 10)
        omega
    · by_cases hv : v < 10
      · exfalso
        have q := congrArg List.length h
        rw [decDigits_length, decDigits_length, nDigits_small hv, nDigits_big hu] at q
        have := nDigits_pos (u / 10)
        omega
      · have e1 : decDigits u = decDigits (u / 10) ++ [UInt8.ofNat (48 + u % 10)] := by rw [decDigits, dif_neg hu]
        have e2 : decDigits v = decDigits (v / 10) ++ [UInt8.ofNat (48 + v % 10)] := by rw [decDigits, dif_neg hv]
        rw [e1, e2] at h
        obtain ⟨h1, h2⟩ := List.append_inj' h rfl
        have q1 := dg_byte ⟨u % 10, by omega⟩
        have q2 := dg_byte ⟨v % 10, by omega⟩
        simp only [List.cons.injEq, and_true] at h2 q1 q2
        rw [h2] at q1
        have := ih (u / 10) (by omega) (v / 10) h1
        omega
theorem hx_all : ∀ n : Fin 16, (hx n.1).toNat ≠ 32 := by decide +kernel
theorem hx_ne (n : Nat) : hx n ≠ 32 := by
  by_cases h : n < 16
  · intro e
    have := hx_all ⟨n, h⟩
    simp only at this
    rw [e] at this
    exact this rfl
  · unfold hx hexs
    rw [List.getD_eq_getElem?_getD, List.getElem?_eq_none (by simp; omega)]
    decide
theorem text4_not : ∀ ns : List Nat, ∀ x ∈ text4 ns, x ≠ 32
  | [], x, h => by simp [text4] at h
  | [a], x, h => by simp only [text4] at h; exact dec_not a 32 (.inl (by decide)) x h
  | a :: b :: t, x, h => by
    rw [text4] at h
    · simp only [List.mem_append, List.mem_cons] at h
      rcases h with h | rfl | h
      · exact dec_not a 32 (.inl (by decide)) x h
      · decide
      · exact text4_not (b :: t) x h
theorem text6_not (bs : List Nat) : ∀ x ∈ text6 bs, x ≠ 32 := by
  intro x h
  unfold text6 text6to at h
  obtain ⟨j, -, rfl⟩ := List.mem_map.1 h
  unfold chr6
  split
  · decide
  · split <;> exact hx_ne _
theorem textA_not (v : Bool) (bs : List Nat) : ∀ x ∈ textA v bs, x ≠ 32 := by
  unfold textA
  split
  · exact text6_not bs
  · exact text4_not _
theorem endT_not (v : Bool) (S : List Nat) (p : Nat) : ∀ x ∈ endT v S p, x ≠ 32 := by
  intro x h
  unfold endT at h
  simp only [List.mem_append, List.mem_cons] at h
  rcases h with h | rfl | h
  · exact textA_not v S x h
  · decide
  · exact dec_not p 32 (.inl (by decide)) x h
theorem endT_inj (v : Bool) (S : List Nat) (p : Nat) (v' : Bool) (S' : List Nat) (p' : Nat) (hl : S.length = 16) (hb : ∀ c ∈ S, c < 256) (hv : vldA v S = true) (hl' : S'.length = 16) (hb' : ∀ c ∈ S', c < 256) (hv' : vldA v' S' = true)
    (h : endT v S p = endT v' S' p') : v = v' ∧ S = S' ∧ p = p' := by
  unfold endT at h
  obtain ⟨h1, h2⟩ := split_last 58 _ _ _ _ (dec_not p 58 (.inr (by decide))) (dec_not p' 58 (.inr (by decide))) h
  have q1 := parseA_text v S hl hb (vldA_spec.1 hv)
  have q2 := parseA_text v' S' hl' hb' (vldA_spec.1 hv')
  rw [h1, q2] at q1
  simp only [Option.some.injEq, Prod.mk.injEq] at q1
  exact ⟨q1.1.symm, q1.2.symm, dec_inj _ _ h2⟩
theorem pnB_not (p : Nat) : ∀ x ∈ (pnB p).data.toList, x ≠ 32 := by
  unfold pnB
  split <;> decide
theorem pnB_inj (p q : Nat) (hp : p = 6 ∨ p = 17) (hq : q = 6 ∨ q = 17) (h : (pnB p).data.toList = (pnB q).data.toList) : p = q := by
  rcases hp with rfl | rfl <;> rcases hq with rfl | rfl
  · rfl
  · exact absurd h (by decide)
  · exact absurd h (by decide)
  · rfl
theorem tK_inj (a b : Fl) (ha : a.Fit) (hb : b.Fit) (va : vK a = true) (vb : vK b = true) (h : tK a = tK b) : a = b := by
  unfold tK at h
  rw [va, vb, if_pos rfl, if_pos rfl] at h
  unfold tR at h
  obtain ⟨h1, h2⟩ := split_first 32 _ _ _ _ (pnB_not _) (pnB_not _) h
  obtain ⟨h3, h4⟩ := split_first 32 _ _ _ _ (endT_not _ _ _) (endT_not _ _ _) h2
  simp only [List.cons.injEq, true_and] at h4
  obtain ⟨a1, a2, a3, a4⟩ := vK_yes va
  obtain ⟨b1, b2, b3, b4⟩ := vK_yes vb
  obtain ⟨e1, e2, e3⟩ := endT_inj _ _ _ _ _ _ ha.lS ha.bS a3 hb.lS hb.bS b3 h3
  obtain ⟨f1, f2, f3⟩ := endT_inj _ _ _ _ _ _ ha.lD ha.bD (by rw [a2]; exact a4) hb.lD hb.bD (by rw [b2]; exact b4) h4
  have e0 := pnB_inj _ _ a1 b1 h1
  obtain ⟨p, sv, S, dv, D, sp, dp⟩ := a
  obtain ⟨p', sv', S', dv', D', sp', dp'⟩ := b
  simp only at *
  subst e0 e1 e2 e3 f1 f2 f3
  rfl
end Go.Proofs.YthkaadcgiplolaaDoor
