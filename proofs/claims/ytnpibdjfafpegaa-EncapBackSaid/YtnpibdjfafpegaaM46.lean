/- Texts that the walks of this seat lean on, put together. -/
import Derived.Test.YtnpibdjfafpegaaTk
import Derived.Test.YtnpibdjfafpegaaM10
import Derived.Test.YtnpibdjfafpegaaM15
import Derived.Test.YtnpibdjfafpegaaM44
namespace Go.Proofs.Ytnpibdjfafpegaa
open Go.RowKit
theorem four_ck {zs : List Nat} {O D F : List Nat} (h : Was zs false O D F) (hO : O.length = 16) (hD : D.length = 16) : ck ((pkt F).take 20) = 0 := by
  have ht : (pkt F).take 20 = headB false O D (prN (sixF zs)) (nE zs - nN zs) := h.says.t
  rw [ht]
  exact mk4_ck _ _ (by simp [hO]) (by simp [hD]) _ _
set_option maxRecDepth 100000 in
set_option maxHeartbeats 8000000 in
theorem back_six (n : Int) (v6 udp : Bool) (a : Option Addr) (la ca : Nat) (zs : List Nat) (tag : Bool) (k : Nat) (m : Int) (w : World) (hr : Rd w (.slice a la ca) (nus .u8 zs)) (hL : zs.length = la) (hna : a = none → ca = 0) (hb : ∀ c ∈ zs, c < 256) (h4 : la ≤ 400) (hk : k ≤ 40) :
    Calls Try.prog 3 #[.int .i64 n, .bool v6, .bool udp, .slice a la ca, .bool tag, .int .i64 (k : Int), .int .i64 m, .bool true] w fun e w' => e = .returned (.bool true) ∧ Below w.heap.size w w' := by
  have K := Lib.hid (Below.refl w.heap.size w)
  have HA := Lib.hid (fun W => awake_any W)
  obtain ⟨u, hu⟩ : ∃ u, u = (n % 1073741824).toNat := ⟨_, rfl⟩
  have CK := Lib.hid (fun W => flow_any n v6 udp W)
  rw [← hu] at CK
  obtain ⟨B, hB⟩ : ∃ B, B = fB8 u v6 udp 0 zs tag false (List.replicate k 0) := ⟨_, rfl⟩
  have hbt := bt u v6 udp 0 zs tag false (List.replicate k 0) (by omega)
  have hBl := fB8_lt u v6 udp 0 zs tag false k (by omega) hb
  rw [← hB] at hbt hBl
  have hm : hN tag + hH v6 + (hsz (pr udp) + zs.length) ≤ 500 := by
    have : hN tag ≤ 18 := by unfold hN; split <;> omega
    have : hH v6 ≤ 40 := by unfold hH; split <;> omega
    have : hsz (pr udp) ≤ 20 := by unfold hsz; split <;> omega
    omega
  obtain ⟨e, he⟩ : ∃ e, e = hN tag + hH v6 + (hsz (pr udp) + zs.length) := ⟨_, rfl⟩
  rw [← he] at hbt hm
  have hlB : B.length = e + k := by rw [hbt.len, List.length_replicate]
  have hnB := hbt.n
  have hmB := hbt.m
  obtain ⟨nb, hnb⟩ : ∃ nb, nb = nN B := ⟨_, rfl⟩
  have hn18 : 14 ≤ nb ∧ nb ≤ 18 := by rw [hnb, hnB]; unfold hN; split <;> omega
  have CB := Lib.hid (fun W (h : Rd W (.slice a la ca) (nus .u8 zs)) => fB8_any u v6 udp 0 k a la ca zs tag false W h hL hna hb (by omega) (by omega) (by omega))
  rw [← hB] at CB
  have hs : inS B true ≤ 65535 := by have := inS_le B true hbt.rr; omega
  have CD := Lib.hid (fun W => dip16 m true W)
  obtain ⟨q, hq⟩ : ∃ q, q = (m % 200).toNat := ⟨_, rfl⟩
  obtain ⟨pt, hpt⟩ : ∃ q, q = 8000 + (m % 1000).toNat := ⟨_, rfl⟩
  rw [← hq, ← hpt] at CD
  have hq2 : q < 200 := by omega
  have sD : (cellsA true (D16 q)).size = 17 := by rw [cellsA_size, D16_len]
  have FD := Lib.hid (fun W => dip_addr (cellsA true (D16 q)) pt sD W)
  have QA := Lib.hid (fun W => eq_adr true (D16 q) (D16_len _) (D16_lt q hq2) W)
  have YA : Hid ((cellsA true (D16 q)).size = Array.size (Zc17 : Array Value)) := sD
  have ZA := Lib.hid (i24.trans (congrArg some sD.symm))
  have AA := Lib.hid (cellsA_all true (D16 q))
  have CO4 := Lib.hid (fun W => own_any false W)
  have CO6 := Lib.hid (fun W => own_any true W)
  have b5 := D16_lt 150 (by decide)
  have bq := D16_lt q hq2
  have C1 := Lib.hid (fun W z (h : Rd W z (nus .u8 B)) => in_own z B (D16 q) true W h hBl (by omega) hbt.rr (D16_len _) bq (D16_v _ _) hs)
  have hW := was B true (D16 150) (D16 q) hBl hbt.rr (D16_len _) (D16_len _) (D16_v _ _) (D16_v _ _) hs
  have hFl := inn_lt B true (D16 150) (D16 q) hBl b5 bq
  have hpk := hW.says.d
  have hnF : nN (inn B true (D16 150) (D16 q)) = nb := by unfold nN; rw [hW.net]; exact hnb.symm
  have hlF : (inn B true (D16 150) (D16 q)).length = e + 40 := by
    rw [hW.len]; unfold inS
    rw [← hnb, hbt.e]
    have : hH true = 40 := rfl
    omega
  obtain ⟨lf, hlf⟩ : ∃ x, x = e + 40 := ⟨_, rfl⟩
  obtain ⟨ns, hns⟩ : ∃ x, x = nb + 40 := ⟨_, rfl⟩
  have hne : nb + 8 ≤ e := by rw [hnB] at hnb; omega
  rw [← hlf] at hlF
  obtain ⟨F, hF⟩ : ∃ F, F = inn B true (D16 150) (D16 q) := ⟨_, rfl⟩
  rw [← hF] at C1 hFl hlF hW hnF hpk
  have C2 := Lib.hid (fun W z (h : Rd W z (nus .u8 F)) => out_any z F W h hFl (by omega))
  rw [hW.ok, hW.a, hW.l, hbt.e] at C2
  have C3 := Lib.hid (fun W z (h : Rd W z (nus .u8 F)) => rnet_any z F W h hFl)
  rw [hW.net] at C3
  simp only at C3
  rw [show kN true = 34525 from rfl] at C3
  rw [← hnb] at C3
  rw [hbt.e, ← hnb] at hpk
  have hdr : F.drop ns = (B.drop nb).take (e - nb) := by
    have : pkt F = F.drop nb := by unfold pkt; rw [show (net F).1 = nb from hnF]
    rw [this, List.drop_drop] at hpk
    rw [hns, show nb + 40 = nb + hH true from rfl, hpk]
    unfold pkt
    rw [show (net B).1 = nb from hnb.symm]
  have HR := Lib.hid hr
  have hte : (B.take e).length = e := by rw [List.length_take]; omega
  have LE := Lib.hid hte
  have LF := Lib.hid hlF
  have LB := Lib.hid hlB
  have HD := Lib.hid hdr
  clear hr hL hna hb hB hbt hBl hs sD b5 bq hW hFl hu hq hpt hq2 hnB hmB hnb hpk hnF he hF hdr hte
  unfold adr at CO4 CO6 C1 QA
  generalize cellsA true (D16 q) = DA at *
  generalize cellsA false (D16 150) = A4 at *
  generalize cellsA true (D16 150) = A6 at *
  generalize flow u v6 udp = kc at *
  generalize dcells DA pt = dc at *
  have w1 : IntKind.i64.wrap ((nb : Int) + 40) = (ns : Int) := by rw [IntKind.wrap_i64]; omega
  have w2 : IntKind.i64.wrap ((e : Int) + 40) = (lf : Int) := by rw [IntKind.wrap_i64]; omega
  have W1 := Lib.hid w1
  have W2 := Lib.hid w2
  have hnl : ns + 8 ≤ lf := by omega
  have heq : lf - ns = e - nb := by omega
  have HEQ := Lib.hid heq
  have h20 : nb + 20 ≤ lf := by omega
  have h20n : ns - nb = 40 := by omega
  have HNS := Lib.hid h20n
  have hnn : nb ≤ ns := by omega
  clear w1 w2 heq hlf hns h20n
  have qe : IntKind.i64.wrap (((e + k : Nat) : Int) - (k : Int)) = (e : Int) := by rw [IntKind.wrap_i64]; omega
  have QE := Lib.hid qe
  have qe2 : IntKind.i64.wrap (e : Int) = (e : Int) := by rw [IntKind.wrap_i64]; omega
  have WE := Lib.hid qe2
  clear qe qe2
  rw [LB.out] at CB
  have d1 : decide ((la : Int) > 400) = false := by rw [decide_eq_false_iff_not]; omega
  have d2 : decide ((k : Int) < 0) = false := by rw [decide_eq_false_iff_not]; omega
  have d3 : decide ((k : Int) > 40) = false := by rw [decide_eq_false_iff_not]; omega
  go_enter Try.func3, Try.ntmps3
  go_wp2_with fail
  refine (CK.out w).mono ?_
  rintro e V1 ⟨rfl, hy⟩
  replace K := Lib.hid (K.out.trans (hy.mono K.out.size))
  clear hy
  go_wp2_with fail
  refine (CB.out V1 (HR.out.below K.out)).mono ?_
  rintro e V2 ⟨gb, cb, rfl, ob, hy⟩
  replace K := Lib.hid (K.out.trans (hy.mono K.out.size))
  have RB := Lib.hid (Rd.own ob)
  have hcb : e + k ≤ cb := by
    obtain ⟨_, _, e1, h1, -, -⟩ := RB.out
    simp only [Value.slice.injEq] at e1
    obtain ⟨-, e2, rfl⟩ := e1
    omega
  clear ob
  clear hy
  go_wp2_with fail
  refine (CD.out V2).mono ?_
  rintro e V3 ⟨rfl, hy⟩
  replace K := Lib.hid (K.out.trans (hy.mono K.out.size))
  replace RB := Lib.hid (RB.out.below hy)
  clear hy
  go_wp2_with (first | ((with_reducible refine wpList_field_want (op := ⟨some 52, .field 33 (.tmp 51) 0, _, _, _, _⟩) ?wg1 33 (.tmp 51) 0 ?wo1 (.agg dc) (.agg DA) ?wx1 (FD.out _) ?_); (case wg1 => rfl); (case wo1 => rfl); (case wx1 => rfl)) | ((with_reducible refine wpList_blk_store (op := ⟨none, .store 27 (.tmp 18) (.tmp 52), _, _, _, _⟩) ?sg2 27 (.tmp 18) (.tmp 52) ?so2 (V3.heap.size) DA ?sx2 ?sy2 (Blk.new V3 27 Zc17) YA.out ZA.out AA.out ?_); (case sg2 => rfl); (case so2 => rfl); (case sx2 => rfl); (case sy2 => rfl)))
  intro V4 hA hF hB
  have hy := ((Below.refl V3.heap.size V3).alloc (Nat.le_refl _) (.cells Zc17 27)).trans (hB _ (Nat.le_refl _))
  replace K := Lib.hid (K.out.trans (hy.mono K.out.size))
  replace RB := Lib.hid (RB.out.below hy)
  have ND := Lib.hid hA
  clear hA hF hB hy
  go_wp2_with fail
  refine wp_region_held (S := (fun w' : World => Below (V4.heap.size) V4 w')) (by kernel_rfl) ?_
  change wpAnyH _ _ _ _ _ _ _ _ V4.drew
  have hy : Below V4.heap.size V4 V4.drew := (Below.refl _ _).drew
  have hE0 : Below (V4.heap.size) V4 V4.drew := (Below.refl _ _).drew
  clear hy
  generalize V4.drew = Y5x0 at hE0  ⊢
  have E0 := Lib.hid hE0
  clear hE0
  refine tkA 0 (?_) ?_ E0.out ?_
  rotate_left
  · (intro w1 hS; go_simp; try with_reducible rfl)
  simp only [Act.put, tS1, tS2, tS3]
  refine tkA 3 (.agg DA) ?_ E0.out ?_
  · (intro w1 hS; have hW := hS; exact exec_load 27 (.tmp 18) rfl _ rfl _ (run_blk_load (P := Try.prog) 27 (V3.heap.size) _ (ND.out.below hW ND.out.lt) Try.underlying27 rfl ZA.out))
  simp only [Act.put, tS1, tS2, tS3]
  refine tkO 1 (fun KK hK => ?_)
  go_simp
  refine (CO4.out Y5x0).mono ?_
  rintro e Y5x1 ⟨rfl, hy⟩
  have E1 := Lib.hid (E0.out.trans (hy.mono E0.out.size))
  have C1 := Lib.hid E1.out
  clear hy E0
  refine hK.out _ _ C1.out (fun _ => ?_)
  clear hK KK
  refine wpAnyH_mono (S' := (fun w' : World => Below Y5x1.heap.size Y5x1 w')) (fun w1 h => C1.out.trans (h.mono C1.out.size)) _ _ _ _ ?_
  clear C1
  try simp only [Act.put, tS1, tS2, tS3]
  refine tkO 2 (fun KK hK => ?_)
  go_simp
  refine (CO6.out Y5x1).mono ?_
  rintro e Y5x2 ⟨rfl, hy⟩
  have E2 := Lib.hid (E1.out.trans (hy.mono E1.out.size))
  have C2 := Lib.hid hy
  clear hy E1
  refine hK.out _ _ C2.out (fun _ => ?_)
  clear hK KK
  refine wpAnyH_mono (S' := (fun w' : World => Below Y5x2.heap.size Y5x2 w')) (fun w1 h => C2.out.trans (h.mono C2.out.size)) _ _ _ _ ?_
  clear C2
  try simp only [Act.put, tS1, tS2, tS3]
  refine tkO 4 (fun KK hK => ?_)
  go_simp
  refine (C1.out Y5x2 _ (RB.out.below E2.out)).mono ?_
  rintro e Y5x3 ⟨x1, rfl, rx, hy⟩
  have E3 := Lib.hid (E2.out.trans (hy.mono E2.out.size))
  have C3 := Lib.hid hy
  have RX := Lib.hid (rx)
  obtain ⟨ax, cx, ex, hcx, hcx2⟩ := rd_shape RX.out
  rw [LF.out] at ex hcx
  subst ex
  obtain ⟨bx, ox, rfl, -⟩ := RX.out.cells (by omega)
  clear rx
  clear hy E2
  refine hK.out _ _ C3.out (fun _ => ?_)
  clear hK KK
  refine wpAnyH_mono (S' := (fun w' : World => Below Y5x3.heap.size Y5x3 w')) (fun w1 h => C3.out.trans (h.mono C3.out.size)) _ _ _ _ ?_
  clear C3
  try simp only [Act.put, tS1, tS2, tS3]
  refine tkA 5 (?_) ?_ (Below.refl _ _) ?_
  rotate_left
  · (intro w1 hS; go_simp; try with_reducible rfl)
  simp only [Act.put, tS1, tS2, tS3]
  refine tkA 6 (?_) ?_ (Below.refl _ _) ?_
  rotate_left
  · (intro w1 hS; go_simp; try with_reducible rfl)
  simp only [Act.put, tS1, tS2, tS3]
  refine tkA 8 (?_) ?_ (Below.refl _ _) ?_
  rotate_left
  · (intro w1 hS; go_simp; try with_reducible rfl)
  simp only [Act.put, tS1, tS2, tS3]
  refine tkA 7 (?_) ?_ (Below.refl _ _) ?_
  rotate_left
  · (intro w1 hS; go_simp; try with_reducible rfl)
  simp only [Act.put, tS1, tS2, tS3]
  refine tkA 9 (?_) ?_ (Below.refl _ _) ?_
  rotate_left
  · (intro w1 hS; go_simp; try with_reducible rfl)
  simp only [Act.put, tS1, tS2, tS3]
  refine wpAnyH_done (by kernel_rfl) ?_ _
  have hy := E3.out
  replace K := Lib.hid (K.out.trans (hy.mono K.out.size))
  replace RB := Lib.hid (RB.out.below hy)
  replace ND := Lib.hid (ND.out.below hy ND.out.lt)
  clear hy E3
  go_wp2_with fail
  refine (C2.out Y5x3 _ RX.out).mono ?_
  rintro e V5 ⟨y1, rfl, ry, hy⟩
  replace K := Lib.hid (K.out.trans (hy.mono K.out.size))
  replace RB := Lib.hid (RB.out.below hy)
  replace ND := Lib.hid (ND.out.below hy ND.out.lt)
  replace RX := Lib.hid (RX.out.below hy)
  have RY := Lib.hid (ry)
  clear ry
  obtain ⟨ay, cy, ey, -, -⟩ := rd_shape RY.out
  rw [LE.out] at ey
  subst ey
  clear hy
  go_wp2_with (((with_reducible refine wpList_blk_store (op := ⟨none, .store 27 (.tmp 22) (.tmp 65), _, _, _, _⟩) ?sg3 27 (.tmp 22) (.tmp 65) ?so3 (V5.heap.size) DA ?sx3 ?sy3 (Blk.new V5 27 Zc17) YA.out ZA.out AA.out ?_); (case sg3 => rfl); (case so3 => rfl); (case sx3 => rfl); (case sy3 => rfl)))
  have qNDNT : V3.heap.size < V5.heap.size := ND.out.lt
  intro V6 hA hF hB
  have hy := ((Below.refl V5.heap.size V5).alloc (Nat.le_refl _) (.cells Zc17 27)).trans (hB _ (Nat.le_refl _))
  replace K := Lib.hid (K.out.trans (hy.mono K.out.size))
  replace RB := Lib.hid (RB.out.below hy)
  replace ND := Lib.hid (ND.out.below hy ND.out.lt)
  replace RX := Lib.hid (RX.out.below hy)
  replace RY := Lib.hid (RY.out.below hy)
  have NT := Lib.hid hA
  clear hA hF hB hy
  go_wp2_with fail
  refine (C3.out V6 _ RX.out).mono ?_
  rintro e V7 ⟨rfl, hy⟩
  replace K := Lib.hid (K.out.trans (hy.mono K.out.size))
  replace RB := Lib.hid (RB.out.below hy)
  replace ND := Lib.hid (ND.out.below hy ND.out.lt)
  replace RX := Lib.hid (RX.out.below hy)
  replace RY := Lib.hid (RY.out.below hy)
  replace NT := Lib.hid (NT.out.below hy NT.out.lt)
  clear hy
  go_wp2_with fail
  have RE := Lib.hid (RB.out.front e (by rw [LB.out]; omega))
  go_wp2_with fail
  refine wp_region_held (S := (fun w' : World => Below (V7.heap.size) V7 w')) (by kernel_rfl) ?_
  change wpAnyH _ _ _ _ _ _ _ _ V7.drew
  have hy : Below V7.heap.size V7 V7.drew := (Below.refl _ _).drew
  have hE0 : Below (V7.heap.size) V7 V7.drew := (Below.refl _ _).drew
  clear hy
  generalize V7.drew = Y8x0 at hE0  ⊢
  have E0 := Lib.hid hE0
  clear hE0
  refine tkA 0 (?_) ?_ E0.out ?_
  rotate_left
  · (intro w1 hS; go_simp; try with_reducible rfl)
  simp only [Act.put, tS1, tS2, tS3]
  refine tkA 1 (?_) ?_ E0.out ?_
  rotate_left
  · (intro w1 hS; go_simp; try with_reducible rfl)
  simp only [Act.put, tS1, tS2, tS3]
  refine tkA 2 (?_) ?_ E0.out ?_
  rotate_left
  · (intro w1 hS; go_simp; try with_reducible rfl)
  simp only [Act.put, tS1, tS2, tS3]
  refine tkA 3 (?_) ?_ E0.out ?_
  rotate_left
  · (intro w1 hS; go_simp; try with_reducible rfl)
  simp only [Act.put, tS1, tS2, tS3]
  refine tkA 4 (?_) ?_ E0.out ?_
  rotate_left
  · (intro w1 hS; go_simp; try with_reducible rfl)
  simp only [Act.put, tS1, tS2, tS3]
  refine tkA 5 (?_) ?_ E0.out ?_
  rotate_left
  · (intro w1 hS; go_simp; try with_reducible rfl)
  simp only [Act.put, tS1, tS2, tS3]
  refine tkA 6 (?_) ?_ E0.out ?_
  rotate_left
  · (intro w1 hS; go_simp; try with_reducible rfl)
  simp only [Act.put, tS1, tS2, tS3]
  refine tkA 7 (?_) ?_ E0.out ?_
  rotate_left
  · (intro w1 hS; go_simp; try with_reducible rfl)
  simp only [Act.put, tS1, tS2, tS3]
  refine tkA 8 (?_) ?_ E0.out ?_
  rotate_left
  · (intro w1 hS; go_simp; try with_reducible rfl)
  simp only [Act.put, tS1, tS2, tS3]
  refine tkA 9 (?_) ?_ E0.out ?_
  rotate_left
  · (intro w1 hS; go_simp; try with_reducible rfl)
  simp only [Act.put, tS1, tS2, tS3]
  refine tkA 10 (?_) ?_ E0.out ?_
  rotate_left
  · (intro w1 hS; go_simp; try with_reducible rfl)
  simp only [Act.put, tS1, tS2, tS3]
  refine tkA 11 (.agg DA) ?_ E0.out ?_
  · (intro w1 hS; have hW := hS; exact exec_load 27 (.tmp 22) rfl _ rfl _ (run_blk_load (P := Try.prog) 27 (V5.heap.size) _ (NT.out.below hW NT.out.lt) Try.underlying27 rfl ZA.out))
  simp only [Act.put, tS1, tS2, tS3]
  refine tkA 12 (.agg DA) ?_ E0.out ?_
  · (intro w1 hS; have hW := hS; exact exec_load 27 (.tmp 18) rfl _ rfl _ (run_blk_load (P := Try.prog) 27 (V3.heap.size) _ (ND.out.below hW ND.out.lt) Try.underlying27 rfl ZA.out))
  simp only [Act.put, tS1, tS2, tS3]
  refine tkA 13 (?_) ?_ E0.out ?_
  rotate_left
  · (intro w1 hS; have hW := hS; have q := QA.out; clear hW hS; go_simp; try with_reducible rfl)
  simp only [Act.put, tS1, tS2, tS3]
  refine tkA 14 (?_) ?_ E0.out ?_
  rotate_left
  · (intro w1 hS; go_simp; try with_reducible rfl)
  simp only [Act.put, tS1, tS2, tS3]
  refine tkA 15 (?_) ?_ E0.out ?_
  rotate_left
  · (intro w1 hS; go_simp; try with_reducible rfl)
  simp only [Act.put, tS1, tS2, tS3]
  refine tkA 16 (?_) ?_ E0.out ?_
  rotate_left
  · (intro w1 hS; go_simp; try with_reducible rfl)
  simp only [Act.put, tS1, tS2, tS3]
  refine tkA 17 (?_) ?_ E0.out ?_
  rotate_left
  · (intro w1 hS; have hW := hS; have q := conv_rd w1 22 9 5 Try.underlying22 Try.underlying5 Try.underlying9 _ _ (RY.out.below hW); clear hW hS; go_simp; try with_reducible rfl)
  simp only [Act.put, tS1, tS2, tS3]
  refine tkA 18 (?_) ?_ E0.out ?_
  rotate_left
  · (intro w1 hS; go_simp; try with_reducible rfl)
  simp only [Act.put, tS1, tS2, tS3]
  refine tkA 19 (?_) ?_ E0.out ?_
  rotate_left
  · (intro w1 hS; go_simp; try with_reducible rfl)
  simp only [Act.put, tS1, tS2, tS3]
  refine tkA 20 (?_) ?_ E0.out ?_
  rotate_left
  · (intro w1 hS; go_simp; try with_reducible rfl)
  simp only [Act.put, tS1, tS2, tS3]
  refine tkA 21 (?_) ?_ E0.out ?_
  rotate_left
  · (intro w1 hS; go_simp; try with_reducible rfl)
  simp only [Act.put, tS1, tS2, tS3]
  refine tkA 22 (?_) ?_ E0.out ?_
  rotate_left
  · (intro w1 hS; have hW := hS; have q := QE.out; clear hW hS; go_simp; try with_reducible rfl)
  simp only [Act.put, tS1, tS2, tS3]
  refine tkA 23 (?_) ?_ E0.out ?_
  rotate_left
  · (intro w1 hS; have hW := hS; have q : (e : Int) ≤ (cb : Int) := (by omega); have q2 := WE.out; clear hW hS; go_simp; try with_reducible rfl)
  simp only [Act.put, tS1, tS2, tS3]
  refine tkA 24 (?_) ?_ E0.out ?_
  rotate_left
  · (intro w1 hS; have hW := hS; have q := conv_rd w1 22 9 5 Try.underlying22 Try.underlying5 Try.underlying9 _ _ (RE.out.below hW); clear hW hS; go_simp; try with_reducible rfl)
  simp only [Act.put, tS1, tS2, tS3]
  refine tkA 25 (?_) ?_ E0.out ?_
  rotate_left
  · (intro w1 hS; go_simp; try with_reducible rfl)
  simp only [Act.put, tS1, tS2, tS3]
  refine tkA 26 (?_) ?_ E0.out ?_
  rotate_left
  · (intro w1 hS; go_simp; try with_reducible rfl)
  simp only [Act.put, tS1, tS2, tS3]
  refine wpAnyH_done (by kernel_rfl) ?_ _
  have hy := E0.out
  replace K := Lib.hid (K.out.trans (hy.mono K.out.size))
  replace RB := Lib.hid (RB.out.below hy)
  replace ND := Lib.hid (ND.out.below hy ND.out.lt)
  replace RX := Lib.hid (RX.out.below hy)
  replace RY := Lib.hid (RY.out.below hy)
  replace NT := Lib.hid (NT.out.below hy NT.out.lt)
  replace RE := Lib.hid (RE.out.below hy)
  clear hy E0
  go_wp2_with fail
  have R1 := Rd.sub RX.out ns (lf - ns) (by omega)
  rw [List.take_of_length_le (by rw [List.length_drop, LF.out]; omega), HD.out] at R1
  have R1 := Lib.hid R1
  have R2 := Rd.sub RB.out nb (e - nb) (by omega)
  rw [Nat.zero_add] at R2
  have R2 := Lib.hid R2
  have hcxn : ¬ cx = ns := by omega
  have hcbn : ¬ cb = nb := by omega
  go_wp2_with fail
  refine wp_region_held (S := (fun w' : World => Below (Y8x0.heap.size) Y8x0 w')) (by kernel_rfl) ?_
  change wpAnyH _ _ _ _ _ _ _ _ Y8x0.drew
  have hy : Below Y8x0.heap.size Y8x0 Y8x0.drew := (Below.refl _ _).drew
  have hE0 : Below (Y8x0.heap.size) Y8x0 Y8x0.drew := (Below.refl _ _).drew
  clear hy
  generalize Y8x0.drew = Y13x0 at hE0  ⊢
  have E0 := Lib.hid hE0
  clear hE0
  refine tkA 0 (?_) ?_ E0.out ?_
  rotate_left
  · (intro w1 hS; go_simp; try with_reducible rfl)
  simp only [Act.put, tS1, tS2, tS3]
  refine tkA 1 (?_) ?_ E0.out ?_
  rotate_left
  · (intro w1 hS; go_simp; try with_reducible rfl)
  simp only [Act.put, tS1, tS2, tS3]
  refine tkA 2 (?_) ?_ E0.out ?_
  rotate_left
  · (intro w1 hS; go_simp; try with_reducible rfl)
  simp only [Act.put, tS1, tS2, tS3]
  refine tkA 3 (?_) ?_ E0.out ?_
  rotate_left
  · (intro w1 hS; go_simp; try with_reducible rfl)
  simp only [Act.put, tS1, tS2, tS3]
  refine tkA 4 (?_) ?_ E0.out ?_
  rotate_left
  · (intro w1 hS; go_simp; try with_reducible rfl)
  simp only [Act.put, tS1, tS2, tS3]
  refine tkA 5 (?_) ?_ E0.out ?_
  rotate_left
  · (intro w1 hS; go_simp; try with_reducible rfl)
  simp only [Act.put, tS1, tS2, tS3]
  refine tkA 6 (?_) ?_ E0.out ?_
  rotate_left
  · (intro w1 hS; go_simp; try with_reducible rfl)
  simp only [Act.put, tS1, tS2, tS3]
  refine tkA 7 (?_) ?_ E0.out ?_
  rotate_left
  · (intro w1 hS; go_simp; try with_reducible rfl)
  simp only [Act.put, tS1, tS2, tS3]
  refine tkA 8 (?_) ?_ E0.out ?_
  rotate_left
  · (intro w1 hS; go_simp; try with_reducible rfl)
  simp only [Act.put, tS1, tS2, tS3]
  refine tkA 9 (?_) ?_ E0.out ?_
  rotate_left
  · (intro w1 hS; have hW := hS; have q := W2.out; clear hW hS; go_simp; try with_reducible rfl)
  simp only [Act.put, tS1, tS2, tS3]
  refine tkA 10 (?_) ?_ E0.out ?_
  rotate_left
  · (intro w1 hS; go_simp; try with_reducible rfl)
  simp only [Act.put, tS1, tS2, tS3]
  refine tkA 11 (?_) ?_ E0.out ?_
  rotate_left
  · (intro w1 hS; go_simp; try with_reducible rfl)
  simp only [Act.put, tS1, tS2, tS3]
  refine tkA 12 (?_) ?_ E0.out ?_
  rotate_left
  · (intro w1 hS; go_simp; try with_reducible rfl)
  simp only [Act.put, tS1, tS2, tS3]
  refine tkA 13 (?_) ?_ E0.out ?_
  rotate_left
  · (intro w1 hS; go_simp; try with_reducible rfl)
  simp only [Act.put, tS1, tS2, tS3]
  refine tkA 14 (?_) ?_ E0.out ?_
  rotate_left
  · (intro w1 hS; go_simp; try with_reducible rfl)
  simp only [Act.put, tS1, tS2, tS3]
  refine tkN 15 E0.out ?_
  simp only [Act.put, tS1, tS2, tS3]
  refine tkN 16 E0.out ?_
  simp only [Act.put, tS1, tS2, tS3]
  refine tkN 17 E0.out ?_
  simp only [Act.put, tS1, tS2, tS3]
  refine tkN 18 E0.out ?_
  simp only [Act.put, tS1, tS2, tS3]
  refine tkN 19 E0.out ?_
  simp only [Act.put, tS1, tS2, tS3]
  refine tkN 20 E0.out ?_
  simp only [Act.put, tS1, tS2, tS3]
  refine tkN 21 E0.out ?_
  simp only [Act.put, tS1, tS2, tS3]
  refine tkA 22 (?_) ?_ E0.out ?_
  rotate_left
  · (intro w1 hS; go_simp; try with_reducible rfl)
  simp only [Act.put, tS1, tS2, tS3]
  refine tkA 23 (?_) ?_ E0.out ?_
  rotate_left
  · (intro w1 hS; go_simp; try with_reducible rfl)
  simp only [Act.put, tS1, tS2, tS3]
  refine tkA 24 (?_) ?_ E0.out ?_
  rotate_left
  · (intro w1 hS; go_simp; try with_reducible rfl)
  simp only [Act.put, tS1, tS2, tS3]
  refine tkA 25 (?_) ?_ E0.out ?_
  rotate_left
  · (intro w1 hS; go_simp; try with_reducible rfl)
  simp only [Act.put, tS1, tS2, tS3]
  refine tkA 26 (?_) ?_ E0.out ?_
  rotate_left
  · (intro w1 hS; go_simp; try with_reducible rfl)
  simp only [Act.put, tS1, tS2, tS3]
  refine tkA 27 (?_) ?_ E0.out ?_
  rotate_left
  · (intro w1 hS; go_simp; try with_reducible rfl)
  simp only [Act.put, tS1, tS2, tS3]
  refine tkA 28 (?_) ?_ E0.out ?_
  rotate_left
  · (intro w1 hS; have hW := hS; have q := W1.out; clear hW hS; go_simp; try with_reducible rfl)
  simp only [Act.put, tS1, tS2, tS3]
  refine tkA 29 (?_) ?_ E0.out ?_
  rotate_left
  · (intro w1 hS; have hW := hS; have q : (ns : Int) ≤ (lf : Int) := (by omega); clear hW hS; go_simp; try with_reducible rfl)
  simp only [Act.put, tS1, tS2, tS3]
  refine tkA 30 (?_) ?_ E0.out ?_
  rotate_left
  · (intro w1 hS; have hW := hS; have q := conv_rd w1 22 9 5 Try.underlying22 Try.underlying5 Try.underlying9 _ _ (R1.out.below hW); clear hW hS; go_simp; try with_reducible rfl)
  simp only [Act.put, tS1, tS2, tS3]
  refine tkA 31 (?_) ?_ E0.out ?_
  rotate_left
  · (intro w1 hS; go_simp; try with_reducible rfl)
  simp only [Act.put, tS1, tS2, tS3]
  refine tkA 32 (?_) ?_ E0.out ?_
  rotate_left
  · (intro w1 hS; go_simp; try with_reducible rfl)
  simp only [Act.put, tS1, tS2, tS3]
  refine tkA 33 (?_) ?_ E0.out ?_
  rotate_left
  · (intro w1 hS; go_simp; try with_reducible rfl)
  simp only [Act.put, tS1, tS2, tS3]
  refine tkA 34 (?_) ?_ E0.out ?_
  rotate_left
  · (intro w1 hS; go_simp; try with_reducible rfl)
  simp only [Act.put, tS1, tS2, tS3]
  refine tkA 35 (?_) ?_ E0.out ?_
  rotate_left
  · (intro w1 hS; go_simp; try with_reducible rfl)
  simp only [Act.put, tS1, tS2, tS3]
  refine tkA 36 (?_) ?_ E0.out ?_
  rotate_left
  · (intro w1 hS; have hW := hS; have q := QE.out; clear hW hS; go_simp; try with_reducible rfl)
  simp only [Act.put, tS1, tS2, tS3]
  refine tkA 37 (?_) ?_ E0.out ?_
  rotate_left
  · (intro w1 hS; have hW := hS; have q : (nb : Int) ≤ (e : Int) := (by omega); have q2 : (e : Int) ≤ (cb : Int) := (by omega); have q3 := WE.out; clear hW hS; go_simp; try with_reducible rfl)
  simp only [Act.put, tS1, tS2, tS3]
  refine tkA 38 (?_) ?_ E0.out ?_
  rotate_left
  · (intro w1 hS; have hW := hS; have q := conv_rd w1 22 9 5 Try.underlying22 Try.underlying5 Try.underlying9 _ _ (R2.out.below hW); clear hW hS; go_simp; try with_reducible rfl)
  simp only [Act.put, tS1, tS2, tS3]
  refine tkA 39 (?_) ?_ E0.out ?_
  rotate_left
  · (intro w1 hS; go_simp; try with_reducible rfl)
  simp only [Act.put, tS1, tS2, tS3]
  refine tkA 40 (?_) ?_ E0.out ?_
  rotate_left
  · (intro w1 hS; go_simp; try with_reducible rfl)
  simp only [Act.put, tS1, tS2, tS3]
  refine tkA 41 (?_) ?_ E0.out ?_
  rotate_left
  · (intro w1 hS; go_simp; try with_reducible rfl)
  simp only [Act.put, tS1, tS2, tS3]
  refine tkO 42 (fun KK hK => ?_)
  go_simp
  refine (HA.out Y13x0).mono ?_
  rintro e Y13x1 ⟨rfl, hy⟩
  have E1 := Lib.hid (E0.out.trans (hy.mono E0.out.size))
  have C1 := Lib.hid E1.out
  clear hy E0
  refine hK.out _ _ C1.out (fun _ => ?_)
  clear hK KK
  refine wpAnyH_mono (S' := (fun w' : World => Below Y13x1.heap.size Y13x1 w')) (fun w1 h => C1.out.trans (h.mono C1.out.size)) _ _ _ _ ?_
  clear C1
  try simp only [Act.put, tS1, tS2, tS3]
  refine tkA 43 (?_) ?_ (Below.refl _ _) ?_
  rotate_left
  · (intro w1 hS; go_simp; try with_reducible rfl)
  simp only [Act.put, tS1, tS2, tS3]
  refine tkA 44 (?_) ?_ (Below.refl _ _) ?_
  rotate_left
  · (intro w1 hS; go_simp; try with_reducible rfl)
  simp only [Act.put, tS1, tS2, tS3]
  refine wpAnyH_done (by kernel_rfl) ?_ _
  have hy := E1.out
  replace K := Lib.hid (K.out.trans (hy.mono K.out.size))
  replace RB := Lib.hid (RB.out.below hy)
  replace ND := Lib.hid (ND.out.below hy ND.out.lt)
  replace RX := Lib.hid (RX.out.below hy)
  replace RY := Lib.hid (RY.out.below hy)
  replace NT := Lib.hid (NT.out.below hy NT.out.lt)
  replace RE := Lib.hid (RE.out.below hy)
  replace R1 := Lib.hid (R1.out.below hy)
  replace R2 := Lib.hid (R2.out.below hy)
  clear hy E1
  go_wp2
  go_ret
  exact ⟨rfl, K.out⟩
set_option maxRecDepth 100000 in
set_option maxHeartbeats 8000000 in
theorem back_four (n : Int) (v6 udp : Bool) (a : Option Addr) (la ca : Nat) (zs : List Nat) (tag : Bool) (k : Nat) (m : Int) (w : World) (hr : Rd w (.slice a la ca) (nus .u8 zs)) (hL : zs.length = la) (hna : a = none → ca = 0) (hb : ∀ c ∈ zs, c < 256) (h4 : la ≤ 400) (hk : k ≤ 40) :
    Calls Try.prog 3 #[.int .i64 n, .bool v6, .bool udp, .slice a la ca, .bool tag, .int .i64 (k : Int), .int .i64 m, .bool false] w fun e w' => e = .returned (.bool true) ∧ Below w.heap.size w w' := by
  have K := Lib.hid (Below.refl w.heap.size w)
  have HA := Lib.hid (fun W => awake_any W)
  obtain ⟨u, hu⟩ : ∃ u, u = (n % 1073741824).toNat := ⟨_, rfl⟩
  have CK := Lib.hid (fun W => flow_any n v6 udp W)
  rw [← hu] at CK
  obtain ⟨B, hB⟩ : ∃ B, B = fB8 u v6 udp 0 zs tag false (List.replicate k 0) := ⟨_, rfl⟩
  have hbt := bt u v6 udp 0 zs tag false (List.replicate k 0) (by omega)
  have hBl := fB8_lt u v6 udp 0 zs tag false k (by omega) hb
  rw [← hB] at hbt hBl
  have hm : hN tag + hH v6 + (hsz (pr udp) + zs.length) ≤ 500 := by
    have : hN tag ≤ 18 := by unfold hN; split <;> omega
    have : hH v6 ≤ 40 := by unfold hH; split <;> omega
    have : hsz (pr udp) ≤ 20 := by unfold hsz; split <;> omega
    omega
  obtain ⟨e, he⟩ : ∃ e, e = hN tag + hH v6 + (hsz (pr udp) + zs.length) := ⟨_, rfl⟩
  rw [← he] at hbt hm
  have hlB : B.length = e + k := by rw [hbt.len, List.length_replicate]
  have hnB := hbt.n
  have hmB := hbt.m
  obtain ⟨nb, hnb⟩ : ∃ nb, nb = nN B := ⟨_, rfl⟩
  have hn18 : 14 ≤ nb ∧ nb ≤ 18 := by rw [hnb, hnB]; unfold hN; split <;> omega
  have CB := Lib.hid (fun W (h : Rd W (.slice a la ca) (nus .u8 zs)) => fB8_any u v6 udp 0 k a la ca zs tag false W h hL hna hb (by omega) (by omega) (by omega))
  rw [← hB] at CB
  have hs : inS B false ≤ 65535 := by have := inS_le B false hbt.rr; omega
  have CD := Lib.hid (fun W => dip16 m false W)
  obtain ⟨q, hq⟩ : ∃ q, q = (m % 200).toNat := ⟨_, rfl⟩
  obtain ⟨pt, hpt⟩ : ∃ q, q = 8000 + (m % 1000).toNat := ⟨_, rfl⟩
  rw [← hq, ← hpt] at CD
  have hq2 : q < 200 := by omega
  have sD : (cellsA false (D16 q)).size = 17 := by rw [cellsA_size, D16_len]
  have FD := Lib.hid (fun W => dip_addr (cellsA false (D16 q)) pt sD W)
  have QA := Lib.hid (fun W => eq_adr false (D16 q) (D16_len _) (D16_lt q hq2) W)
  have YA : Hid ((cellsA false (D16 q)).size = Array.size (Zc17 : Array Value)) := sD
  have ZA := Lib.hid (i24.trans (congrArg some sD.symm))
  have AA := Lib.hid (cellsA_all false (D16 q))
  have CO4 := Lib.hid (fun W => own_any false W)
  have CO6 := Lib.hid (fun W => own_any true W)
  have b5 := D16_lt 150 (by decide)
  have bq := D16_lt q hq2
  have C1 := Lib.hid (fun W z (h : Rd W z (nus .u8 B)) => in_own z B (D16 q) false W h hBl (by omega) hbt.rr (D16_len _) bq (D16_v _ _) hs)
  have hW := was B false (D16 150) (D16 q) hBl hbt.rr (D16_len _) (D16_len _) (D16_v _ _) (D16_v _ _) hs
  have hFl := inn_lt B false (D16 150) (D16 q) hBl b5 bq
  have hpk := hW.says.d
  have hnF : nN (inn B false (D16 150) (D16 q)) = nb := by unfold nN; rw [hW.net]; exact hnb.symm
  have hlF : (inn B false (D16 150) (D16 q)).length = e + 20 := by
    rw [hW.len]; unfold inS
    rw [← hnb, hbt.e]
    have : hH false = 20 := rfl
    omega
  have hck := four_ck hW (D16_len _) (D16_len _)
  have hck2 : ∀ W z, Rd W z (nus .u8 ((pkt (inn B false (D16 150) (D16 q))).take 20)) → Calls Try.prog 15 #[z] W fun e w' => e = .returned (.int .i64 0) ∧ W = w' := fun W z h => by
    have := rcheck_any z ((pkt (inn B false (D16 150) (D16 q))).take 20) W h (by rw [List.length_take]; omega) (fun c hc => hFl c (List.mem_of_mem_drop (List.mem_of_mem_take hc)))
    rw [hck] at this
    exact this
  rw [show pkt (inn B false (D16 150) (D16 q)) = (inn B false (D16 150) (D16 q)).drop nb from by unfold pkt; rw [show (net (inn B false (D16 150) (D16 q))).1 = nb from hnF]] at hck2
  have CC := Lib.hid hck2
  clear hck hck2
  obtain ⟨lf, hlf⟩ : ∃ x, x = e + 20 := ⟨_, rfl⟩
  obtain ⟨ns, hns⟩ : ∃ x, x = nb + 20 := ⟨_, rfl⟩
  have hne : nb + 8 ≤ e := by rw [hnB] at hnb; omega
  rw [← hlf] at hlF
  obtain ⟨F, hF⟩ : ∃ F, F = inn B false (D16 150) (D16 q) := ⟨_, rfl⟩
  rw [← hF] at C1 hFl hlF hW hnF hpk CC
  have C2 := Lib.hid (fun W z (h : Rd W z (nus .u8 F)) => out_any z F W h hFl (by omega))
  rw [hW.ok, hW.a, hW.l, hbt.e] at C2
  have C3 := Lib.hid (fun W z (h : Rd W z (nus .u8 F)) => rnet_any z F W h hFl)
  rw [hW.net] at C3
  simp only at C3
  rw [show kN false = 2048 from rfl] at C3
  rw [← hnb] at C3
  rw [hbt.e, ← hnb] at hpk
  have hdr : F.drop ns = (B.drop nb).take (e - nb) := by
    have : pkt F = F.drop nb := by unfold pkt; rw [show (net F).1 = nb from hnF]
    rw [this, List.drop_drop] at hpk
    rw [hns, show nb + 20 = nb + hH false from rfl, hpk]
    unfold pkt
    rw [show (net B).1 = nb from hnb.symm]
  have HR := Lib.hid hr
  have hte : (B.take e).length = e := by rw [List.length_take]; omega
  have LE := Lib.hid hte
  have LF := Lib.hid hlF
  have LB := Lib.hid hlB
  have HD := Lib.hid hdr
  clear hr hL hna hb hB hbt hBl hs sD b5 bq hW hFl hu hq hpt hq2 hnB hmB hnb hpk hnF he hF hdr hte
  unfold adr at CO4 CO6 C1 QA
  generalize cellsA false (D16 q) = DA at *
  generalize cellsA false (D16 150) = A4 at *
  generalize cellsA true (D16 150) = A6 at *
  generalize flow u v6 udp = kc at *
  generalize dcells DA pt = dc at *
  have w1 : IntKind.i64.wrap ((nb : Int) + 20) = (ns : Int) := by rw [IntKind.wrap_i64]; omega
  have w2 : IntKind.i64.wrap ((e : Int) + 20) = (lf : Int) := by rw [IntKind.wrap_i64]; omega
  have W1 := Lib.hid w1
  have W2 := Lib.hid w2
  have hnl : ns + 8 ≤ lf := by omega
  have heq : lf - ns = e - nb := by omega
  have HEQ := Lib.hid heq
  have h20 : nb + 20 ≤ lf := by omega
  have h20n : ns - nb = 20 := by omega
  have HNS := Lib.hid h20n
  have hnn : nb ≤ ns := by omega
  clear w1 w2 heq hlf hns h20n
  have qe : IntKind.i64.wrap (((e + k : Nat) : Int) - (k : Int)) = (e : Int) := by rw [IntKind.wrap_i64]; omega
  have QE := Lib.hid qe
  have qe2 : IntKind.i64.wrap (e : Int) = (e : Int) := by rw [IntKind.wrap_i64]; omega
  have WE := Lib.hid qe2
  clear qe qe2
  rw [LB.out] at CB
  have d1 : decide ((la : Int) > 400) = false := by rw [decide_eq_false_iff_not]; omega
  have d2 : decide ((k : Int) < 0) = false := by rw [decide_eq_false_iff_not]; omega
  have d3 : decide ((k : Int) > 40) = false := by rw [decide_eq_false_iff_not]; omega
  go_enter Try.func3, Try.ntmps3
  go_wp2_with fail
  refine (CK.out w).mono ?_
  rintro e V1 ⟨rfl, hy⟩
  replace K := Lib.hid (K.out.trans (hy.mono K.out.size))
  clear hy
  go_wp2_with fail
  refine (CB.out V1 (HR.out.below K.out)).mono ?_
  rintro e V2 ⟨gb, cb, rfl, ob, hy⟩
  replace K := Lib.hid (K.out.trans (hy.mono K.out.size))
  have RB := Lib.hid (Rd.own ob)
  have hcb : e + k ≤ cb := by
    obtain ⟨_, _, e1, h1, -, -⟩ := RB.out
    simp only [Value.slice.injEq] at e1
    obtain ⟨-, e2, rfl⟩ := e1
    omega
  clear ob
  clear hy
  go_wp2_with fail
  refine (CD.out V2).mono ?_
  rintro e V3 ⟨rfl, hy⟩
  replace K := Lib.hid (K.out.trans (hy.mono K.out.size))
  replace RB := Lib.hid (RB.out.below hy)
  clear hy
  go_wp2_with (first | ((with_reducible refine wpList_field_want (op := ⟨some 52, .field 33 (.tmp 51) 0, _, _, _, _⟩) ?wg4 33 (.tmp 51) 0 ?wo4 (.agg dc) (.agg DA) ?wx4 (FD.out _) ?_); (case wg4 => rfl); (case wo4 => rfl); (case wx4 => rfl)) | ((with_reducible refine wpList_blk_store (op := ⟨none, .store 27 (.tmp 18) (.tmp 52), _, _, _, _⟩) ?sg5 27 (.tmp 18) (.tmp 52) ?so5 (V3.heap.size) DA ?sx5 ?sy5 (Blk.new V3 27 Zc17) YA.out ZA.out AA.out ?_); (case sg5 => rfl); (case so5 => rfl); (case sx5 => rfl); (case sy5 => rfl)))
  intro V4 hA hF hB
  have hy := ((Below.refl V3.heap.size V3).alloc (Nat.le_refl _) (.cells Zc17 27)).trans (hB _ (Nat.le_refl _))
  replace K := Lib.hid (K.out.trans (hy.mono K.out.size))
  replace RB := Lib.hid (RB.out.below hy)
  have ND := Lib.hid hA
  clear hA hF hB hy
  go_wp2_with fail
  refine wp_region_held (S := (fun w' : World => Below (V4.heap.size) V4 w')) (by kernel_rfl) ?_
  change wpAnyH _ _ _ _ _ _ _ _ V4.drew
  have hy : Below V4.heap.size V4 V4.drew := (Below.refl _ _).drew
  have hE0 : Below (V4.heap.size) V4 V4.drew := (Below.refl _ _).drew
  clear hy
  generalize V4.drew = Y5x0 at hE0  ⊢
  have E0 := Lib.hid hE0
  clear hE0
  refine tkA 0 (?_) ?_ E0.out ?_
  rotate_left
  · (intro w1 hS; go_simp; try with_reducible rfl)
  simp only [Act.put, tS1, tS2, tS3]
  refine tkA 3 (.agg DA) ?_ E0.out ?_
  · (intro w1 hS; have hW := hS; exact exec_load 27 (.tmp 18) rfl _ rfl _ (run_blk_load (P := Try.prog) 27 (V3.heap.size) _ (ND.out.below hW ND.out.lt) Try.underlying27 rfl ZA.out))
  simp only [Act.put, tS1, tS2, tS3]
  refine tkO 1 (fun KK hK => ?_)
  go_simp
  refine (CO4.out Y5x0).mono ?_
  rintro e Y5x1 ⟨rfl, hy⟩
  have E1 := Lib.hid (E0.out.trans (hy.mono E0.out.size))
  have C1 := Lib.hid E1.out
  clear hy E0
  refine hK.out _ _ C1.out (fun _ => ?_)
  clear hK KK
  refine wpAnyH_mono (S' := (fun w' : World => Below Y5x1.heap.size Y5x1 w')) (fun w1 h => C1.out.trans (h.mono C1.out.size)) _ _ _ _ ?_
  clear C1
  try simp only [Act.put, tS1, tS2, tS3]
  refine tkO 2 (fun KK hK => ?_)
  go_simp
  refine (CO6.out Y5x1).mono ?_
  rintro e Y5x2 ⟨rfl, hy⟩
  have E2 := Lib.hid (E1.out.trans (hy.mono E1.out.size))
  have C2 := Lib.hid hy
  clear hy E1
  refine hK.out _ _ C2.out (fun _ => ?_)
  clear hK KK
  refine wpAnyH_mono (S' := (fun w' : World => Below Y5x2.heap.size Y5x2 w')) (fun w1 h => C2.out.trans (h.mono C2.out.size)) _ _ _ _ ?_
  clear C2
  try simp only [Act.put, tS1, tS2, tS3]
  refine tkO 4 (fun KK hK => ?_)
  go_simp
  refine (C1.out Y5x2 _ (RB.out.below E2.out)).mono ?_
  rintro e Y5x3 ⟨x1, rfl, rx, hy⟩
  have E3 := Lib.hid (E2.out.trans (hy.mono E2.out.size))
  have C3 := Lib.hid hy
  have RX := Lib.hid (rx)
  obtain ⟨ax, cx, ex, hcx, hcx2⟩ := rd_shape RX.out
  rw [LF.out] at ex hcx
  subst ex
  obtain ⟨bx, ox, rfl, -⟩ := RX.out.cells (by omega)
  clear rx
  clear hy E2
  refine hK.out _ _ C3.out (fun _ => ?_)
  clear hK KK
  refine wpAnyH_mono (S' := (fun w' : World => Below Y5x3.heap.size Y5x3 w')) (fun w1 h => C3.out.trans (h.mono C3.out.size)) _ _ _ _ ?_
  clear C3
  try simp only [Act.put, tS1, tS2, tS3]
  refine tkA 5 (?_) ?_ (Below.refl _ _) ?_
  rotate_left
  · (intro w1 hS; go_simp; try with_reducible rfl)
  simp only [Act.put, tS1, tS2, tS3]
  refine tkA 6 (?_) ?_ (Below.refl _ _) ?_
  rotate_left
  · (intro w1 hS; go_simp; try with_reducible rfl)
  simp only [Act.put, tS1, tS2, tS3]
  refine tkA 8 (?_) ?_ (Below.refl _ _) ?_
  rotate_left
  · (intro w1 hS; go_simp; try with_reducible rfl)
  simp only [Act.put, tS1, tS2, tS3]
  refine tkA 7 (?_) ?_ (Below.refl _ _) ?_
  rotate_left
  · (intro w1 hS; go_simp; try with_reducible rfl)
  simp only [Act.put, tS1, tS2, tS3]
  refine tkA 9 (?_) ?_ (Below.refl _ _) ?_
  rotate_left
  · (intro w1 hS; go_simp; try with_reducible rfl)
  simp only [Act.put, tS1, tS2, tS3]
  refine wpAnyH_done (by kernel_rfl) ?_ _
  have hy := E3.out
  replace K := Lib.hid (K.out.trans (hy.mono K.out.size))
  replace RB := Lib.hid (RB.out.below hy)
  replace ND := Lib.hid (ND.out.below hy ND.out.lt)
  clear hy E3
  go_wp2_with fail
  refine (C2.out Y5x3 _ RX.out).mono ?_
  rintro e V5 ⟨y1, rfl, ry, hy⟩
  replace K := Lib.hid (K.out.trans (hy.mono K.out.size))
  replace RB := Lib.hid (RB.out.below hy)
  replace ND := Lib.hid (ND.out.below hy ND.out.lt)
  replace RX := Lib.hid (RX.out.below hy)
  have RY := Lib.hid (ry)
  clear ry
  obtain ⟨ay, cy, ey, -, -⟩ := rd_shape RY.out
  rw [LE.out] at ey
  subst ey
  clear hy
  go_wp2_with (((with_reducible refine wpList_blk_store (op := ⟨none, .store 27 (.tmp 22) (.tmp 65), _, _, _, _⟩) ?sg6 27 (.tmp 22) (.tmp 65) ?so6 (V5.heap.size) DA ?sx6 ?sy6 (Blk.new V5 27 Zc17) YA.out ZA.out AA.out ?_); (case sg6 => rfl); (case so6 => rfl); (case sx6 => rfl); (case sy6 => rfl)))
  have qNDNT : V3.heap.size < V5.heap.size := ND.out.lt
  intro V6 hA hF hB
  have hy := ((Below.refl V5.heap.size V5).alloc (Nat.le_refl _) (.cells Zc17 27)).trans (hB _ (Nat.le_refl _))
  replace K := Lib.hid (K.out.trans (hy.mono K.out.size))
  replace RB := Lib.hid (RB.out.below hy)
  replace ND := Lib.hid (ND.out.below hy ND.out.lt)
  replace RX := Lib.hid (RX.out.below hy)
  replace RY := Lib.hid (RY.out.below hy)
  have NT := Lib.hid hA
  clear hA hF hB hy
  go_wp2_with fail
  refine (C3.out V6 _ RX.out).mono ?_
  rintro e V7 ⟨rfl, hy⟩
  replace K := Lib.hid (K.out.trans (hy.mono K.out.size))
  replace RB := Lib.hid (RB.out.below hy)
  replace ND := Lib.hid (ND.out.below hy ND.out.lt)
  replace RX := Lib.hid (RX.out.below hy)
  replace RY := Lib.hid (RY.out.below hy)
  replace NT := Lib.hid (NT.out.below hy NT.out.lt)
  clear hy
  go_wp2_with fail
  have RE := Lib.hid (RB.out.front e (by rw [LB.out]; omega))
  go_wp2_with fail
  refine wp_region_held (S := (fun w' : World => Below (V7.heap.size) V7 w')) (by kernel_rfl) ?_
  change wpAnyH _ _ _ _ _ _ _ _ V7.drew
  have hy : Below V7.heap.size V7 V7.drew := (Below.refl _ _).drew
  have hE0 : Below (V7.heap.size) V7 V7.drew := (Below.refl _ _).drew
  clear hy
  generalize V7.drew = Y8x0 at hE0  ⊢
  have E0 := Lib.hid hE0
  clear hE0
  refine tkA 0 (?_) ?_ E0.out ?_
  rotate_left
  · (intro w1 hS; go_simp; try with_reducible rfl)
  simp only [Act.put, tS1, tS2, tS3]
  refine tkA 1 (?_) ?_ E0.out ?_
  rotate_left
  · (intro w1 hS; go_simp; try with_reducible rfl)
  simp only [Act.put, tS1, tS2, tS3]
  refine tkA 2 (?_) ?_ E0.out ?_
  rotate_left
  · (intro w1 hS; go_simp; try with_reducible rfl)
  simp only [Act.put, tS1, tS2, tS3]
  refine tkA 3 (?_) ?_ E0.out ?_
  rotate_left
  · (intro w1 hS; go_simp; try with_reducible rfl)
  simp only [Act.put, tS1, tS2, tS3]
  refine tkA 4 (?_) ?_ E0.out ?_
  rotate_left
  · (intro w1 hS; go_simp; try with_reducible rfl)
  simp only [Act.put, tS1, tS2, tS3]
  refine tkA 5 (?_) ?_ E0.out ?_
  rotate_left
  · (intro w1 hS; go_simp; try with_reducible rfl)
  simp only [Act.put, tS1, tS2, tS3]
  refine tkA 6 (?_) ?_ E0.out ?_
  rotate_left
  · (intro w1 hS; go_simp; try with_reducible rfl)
  simp only [Act.put, tS1, tS2, tS3]
  refine tkA 7 (?_) ?_ E0.out ?_
  rotate_left
  · (intro w1 hS; go_simp; try with_reducible rfl)
  simp only [Act.put, tS1, tS2, tS3]
  refine tkA 8 (?_) ?_ E0.out ?_
  rotate_left
  · (intro w1 hS; go_simp; try with_reducible rfl)
  simp only [Act.put, tS1, tS2, tS3]
  refine tkA 9 (?_) ?_ E0.out ?_
  rotate_left
  · (intro w1 hS; go_simp; try with_reducible rfl)
  simp only [Act.put, tS1, tS2, tS3]
  refine tkA 10 (?_) ?_ E0.out ?_
  rotate_left
  · (intro w1 hS; go_simp; try with_reducible rfl)
  simp only [Act.put, tS1, tS2, tS3]
  refine tkA 11 (.agg DA) ?_ E0.out ?_
  · (intro w1 hS; have hW := hS; exact exec_load 27 (.tmp 22) rfl _ rfl _ (run_blk_load (P := Try.prog) 27 (V5.heap.size) _ (NT.out.below hW NT.out.lt) Try.underlying27 rfl ZA.out))
  simp only [Act.put, tS1, tS2, tS3]
  refine tkA 12 (.agg DA) ?_ E0.out ?_
  · (intro w1 hS; have hW := hS; exact exec_load 27 (.tmp 18) rfl _ rfl _ (run_blk_load (P := Try.prog) 27 (V3.heap.size) _ (ND.out.below hW ND.out.lt) Try.underlying27 rfl ZA.out))
  simp only [Act.put, tS1, tS2, tS3]
  refine tkA 13 (?_) ?_ E0.out ?_
  rotate_left
  · (intro w1 hS; have hW := hS; have q := QA.out; clear hW hS; go_simp; try with_reducible rfl)
  simp only [Act.put, tS1, tS2, tS3]
  refine tkA 14 (?_) ?_ E0.out ?_
  rotate_left
  · (intro w1 hS; go_simp; try with_reducible rfl)
  simp only [Act.put, tS1, tS2, tS3]
  refine tkA 15 (?_) ?_ E0.out ?_
  rotate_left
  · (intro w1 hS; go_simp; try with_reducible rfl)
  simp only [Act.put, tS1, tS2, tS3]
  refine tkA 16 (?_) ?_ E0.out ?_
  rotate_left
  · (intro w1 hS; go_simp; try with_reducible rfl)
  simp only [Act.put, tS1, tS2, tS3]
  refine tkA 17 (?_) ?_ E0.out ?_
  rotate_left
  · (intro w1 hS; have hW := hS; have q := conv_rd w1 22 9 5 Try.underlying22 Try.underlying5 Try.underlying9 _ _ (RY.out.below hW); clear hW hS; go_simp; try with_reducible rfl)
  simp only [Act.put, tS1, tS2, tS3]
  refine tkA 18 (?_) ?_ E0.out ?_
  rotate_left
  · (intro w1 hS; go_simp; try with_reducible rfl)
  simp only [Act.put, tS1, tS2, tS3]
  refine tkA 19 (?_) ?_ E0.out ?_
  rotate_left
  · (intro w1 hS; go_simp; try with_reducible rfl)
  simp only [Act.put, tS1, tS2, tS3]
  refine tkA 20 (?_) ?_ E0.out ?_
  rotate_left
  · (intro w1 hS; go_simp; try with_reducible rfl)
  simp only [Act.put, tS1, tS2, tS3]
  refine tkA 21 (?_) ?_ E0.out ?_
  rotate_left
  · (intro w1 hS; go_simp; try with_reducible rfl)
  simp only [Act.put, tS1, tS2, tS3]
  refine tkA 22 (?_) ?_ E0.out ?_
  rotate_left
  · (intro w1 hS; have hW := hS; have q := QE.out; clear hW hS; go_simp; try with_reducible rfl)
  simp only [Act.put, tS1, tS2, tS3]
  refine tkA 23 (?_) ?_ E0.out ?_
  rotate_left
  · (intro w1 hS; have hW := hS; have q : (e : Int) ≤ (cb : Int) := (by omega); have q2 := WE.out; clear hW hS; go_simp; try with_reducible rfl)
  simp only [Act.put, tS1, tS2, tS3]
  refine tkA 24 (?_) ?_ E0.out ?_
  rotate_left
  · (intro w1 hS; have hW := hS; have q := conv_rd w1 22 9 5 Try.underlying22 Try.underlying5 Try.underlying9 _ _ (RE.out.below hW); clear hW hS; go_simp; try with_reducible rfl)
  simp only [Act.put, tS1, tS2, tS3]
  refine tkA 25 (?_) ?_ E0.out ?_
  rotate_left
  · (intro w1 hS; go_simp; try with_reducible rfl)
  simp only [Act.put, tS1, tS2, tS3]
  refine tkA 26 (?_) ?_ E0.out ?_
  rotate_left
  · (intro w1 hS; go_simp; try with_reducible rfl)
  simp only [Act.put, tS1, tS2, tS3]
  refine wpAnyH_done (by kernel_rfl) ?_ _
  have hy := E0.out
  replace K := Lib.hid (K.out.trans (hy.mono K.out.size))
  replace RB := Lib.hid (RB.out.below hy)
  replace ND := Lib.hid (ND.out.below hy ND.out.lt)
  replace RX := Lib.hid (RX.out.below hy)
  replace RY := Lib.hid (RY.out.below hy)
  replace NT := Lib.hid (NT.out.below hy NT.out.lt)
  replace RE := Lib.hid (RE.out.below hy)
  clear hy E0
  go_wp2_with fail
  have R1 := Rd.sub RX.out ns (lf - ns) (by omega)
  rw [List.take_of_length_le (by rw [List.length_drop, LF.out]; omega), HD.out] at R1
  have R1 := Lib.hid R1
  have R2 := Rd.sub RB.out nb (e - nb) (by omega)
  rw [Nat.zero_add] at R2
  have R2 := Lib.hid R2
  have hcxn : ¬ cx = ns := by omega
  have hcbn : ¬ cb = nb := by omega
  have R3 : Rd Y8x0 (.slice (some ⟨bx, ox + nb, none⟩) (ns - nb) (cx - nb)) (nus .u8 ((F.drop nb).take 20)) := by
    have q := Rd.sub RX.out nb (ns - nb) (by omega)
    have h := HNS.out
    rw [h] at q ⊢
    exact q
  have R3 := Lib.hid R3
  go_wp2_with fail
  refine wp_region_held (S := (fun w' : World => Below (Y8x0.heap.size) Y8x0 w')) (by kernel_rfl) ?_
  change wpAnyH _ _ _ _ _ _ _ _ Y8x0.drew
  have hy : Below Y8x0.heap.size Y8x0 Y8x0.drew := (Below.refl _ _).drew
  have hE0 : Below (Y8x0.heap.size) Y8x0 Y8x0.drew := (Below.refl _ _).drew
  clear hy
  generalize Y8x0.drew = Y13x0 at hE0  ⊢
  have E0 := Lib.hid hE0
  clear hE0
  refine tkA 0 (?_) ?_ E0.out ?_
  rotate_left
  · (intro w1 hS; go_simp; try with_reducible rfl)
  simp only [Act.put, tS1, tS2, tS3]
  refine tkA 1 (?_) ?_ E0.out ?_
  rotate_left
  · (intro w1 hS; go_simp; try with_reducible rfl)
  simp only [Act.put, tS1, tS2, tS3]
  refine tkA 2 (?_) ?_ E0.out ?_
  rotate_left
  · (intro w1 hS; go_simp; try with_reducible rfl)
  simp only [Act.put, tS1, tS2, tS3]
  refine tkA 3 (?_) ?_ E0.out ?_
  rotate_left
  · (intro w1 hS; go_simp; try with_reducible rfl)
  simp only [Act.put, tS1, tS2, tS3]
  refine tkA 4 (?_) ?_ E0.out ?_
  rotate_left
  · (intro w1 hS; go_simp; try with_reducible rfl)
  simp only [Act.put, tS1, tS2, tS3]
  refine tkA 5 (?_) ?_ E0.out ?_
  rotate_left
  · (intro w1 hS; go_simp; try with_reducible rfl)
  simp only [Act.put, tS1, tS2, tS3]
  refine tkA 6 (?_) ?_ E0.out ?_
  rotate_left
  · (intro w1 hS; go_simp; try with_reducible rfl)
  simp only [Act.put, tS1, tS2, tS3]
  refine tkA 7 (?_) ?_ E0.out ?_
  rotate_left
  · (intro w1 hS; go_simp; try with_reducible rfl)
  simp only [Act.put, tS1, tS2, tS3]
  refine tkA 8 (?_) ?_ E0.out ?_
  rotate_left
  · (intro w1 hS; go_simp; try with_reducible rfl)
  simp only [Act.put, tS1, tS2, tS3]
  refine tkA 9 (?_) ?_ E0.out ?_
  rotate_left
  · (intro w1 hS; have hW := hS; have q := W2.out; clear hW hS; go_simp; try with_reducible rfl)
  simp only [Act.put, tS1, tS2, tS3]
  refine tkA 10 (?_) ?_ E0.out ?_
  rotate_left
  · (intro w1 hS; go_simp; try with_reducible rfl)
  simp only [Act.put, tS1, tS2, tS3]
  refine tkA 11 (?_) ?_ E0.out ?_
  rotate_left
  · (intro w1 hS; go_simp; try with_reducible rfl)
  simp only [Act.put, tS1, tS2, tS3]
  refine tkA 12 (?_) ?_ E0.out ?_
  rotate_left
  · (intro w1 hS; go_simp; try with_reducible rfl)
  simp only [Act.put, tS1, tS2, tS3]
  refine tkA 13 (?_) ?_ E0.out ?_
  rotate_left
  · (intro w1 hS; go_simp; try with_reducible rfl)
  simp only [Act.put, tS1, tS2, tS3]
  refine tkA 14 (?_) ?_ E0.out ?_
  rotate_left
  · (intro w1 hS; go_simp; try with_reducible rfl)
  simp only [Act.put, tS1, tS2, tS3]
  refine tkA 15 (?_) ?_ E0.out ?_
  rotate_left
  · (intro w1 hS; go_simp; try with_reducible rfl)
  simp only [Act.put, tS1, tS2, tS3]
  refine tkA 16 (?_) ?_ E0.out ?_
  rotate_left
  · (intro w1 hS; go_simp; try with_reducible rfl)
  simp only [Act.put, tS1, tS2, tS3]
  refine tkA 17 (?_) ?_ E0.out ?_
  rotate_left
  · (intro w1 hS; go_simp; try with_reducible rfl)
  simp only [Act.put, tS1, tS2, tS3]
  refine tkA 18 (?_) ?_ E0.out ?_
  rotate_left
  · (intro w1 hS; have hW := hS; have q := W1.out; clear hW hS; go_simp; try with_reducible rfl)
  simp only [Act.put, tS1, tS2, tS3]
  refine tkA 19 (?_) ?_ E0.out ?_
  rotate_left
  · (intro w1 hS; have hW := hS; have q : (nb : Int) ≤ (ns : Int) := (by omega); have q2 : (ns : Int) ≤ (cx : Int) := (by omega); have q3 : ¬ cx = nb := (by omega); clear hW hS; go_simp; try with_reducible rfl)
  simp only [Act.put, tS1, tS2, tS3]
  refine tkO 20 (fun KK hK => ?_)
  go_simp
  refine (same_below (CC.out Y13x0 _ (R3.out.below E0.out))).mono ?_
  rintro e Y13x1 ⟨rfl, hy⟩
  have E1 := Lib.hid (E0.out.trans (hy.mono E0.out.size))
  have C1 := Lib.hid E1.out
  clear hy E0
  refine hK.out _ _ C1.out (fun _ => ?_)
  clear hK KK
  refine wpAnyH_mono (S' := (fun w' : World => Below Y13x1.heap.size Y13x1 w')) (fun w1 h => C1.out.trans (h.mono C1.out.size)) _ _ _ _ ?_
  clear C1
  try simp only [Act.put, tS1, tS2, tS3]
  refine tkA 21 (?_) ?_ (Below.refl _ _) ?_
  rotate_left
  · (intro w1 hS; go_simp; try with_reducible rfl)
  simp only [Act.put, tS1, tS2, tS3]
  refine tkA 22 (?_) ?_ (Below.refl _ _) ?_
  rotate_left
  · (intro w1 hS; go_simp; try with_reducible rfl)
  simp only [Act.put, tS1, tS2, tS3]
  refine tkA 23 (?_) ?_ (Below.refl _ _) ?_
  rotate_left
  · (intro w1 hS; go_simp; try with_reducible rfl)
  simp only [Act.put, tS1, tS2, tS3]
  refine tkA 24 (?_) ?_ (Below.refl _ _) ?_
  rotate_left
  · (intro w1 hS; go_simp; try with_reducible rfl)
  simp only [Act.put, tS1, tS2, tS3]
  refine tkA 25 (?_) ?_ (Below.refl _ _) ?_
  rotate_left
  · (intro w1 hS; go_simp; try with_reducible rfl)
  simp only [Act.put, tS1, tS2, tS3]
  refine tkA 26 (?_) ?_ (Below.refl _ _) ?_
  rotate_left
  · (intro w1 hS; go_simp; try with_reducible rfl)
  simp only [Act.put, tS1, tS2, tS3]
  refine tkA 27 (?_) ?_ (Below.refl _ _) ?_
  rotate_left
  · (intro w1 hS; go_simp; try with_reducible rfl)
  simp only [Act.put, tS1, tS2, tS3]
  refine tkA 28 (?_) ?_ (Below.refl _ _) ?_
  rotate_left
  · (intro w1 hS; have hW := E1.out.trans (hS.mono E1.out.size); have q := W1.out; clear hW hS; go_simp; try with_reducible rfl)
  simp only [Act.put, tS1, tS2, tS3]
  refine tkA 29 (?_) ?_ (Below.refl _ _) ?_
  rotate_left
  · (intro w1 hS; have hW := E1.out.trans (hS.mono E1.out.size); have q : (ns : Int) ≤ (lf : Int) := (by omega); clear hW hS; go_simp; try with_reducible rfl)
  simp only [Act.put, tS1, tS2, tS3]
  refine tkA 30 (?_) ?_ (Below.refl _ _) ?_
  rotate_left
  · (intro w1 hS; have hW := E1.out.trans (hS.mono E1.out.size); have q := conv_rd w1 22 9 5 Try.underlying22 Try.underlying5 Try.underlying9 _ _ (R1.out.below hW); clear hW hS; go_simp; try with_reducible rfl)
  simp only [Act.put, tS1, tS2, tS3]
  refine tkA 31 (?_) ?_ (Below.refl _ _) ?_
  rotate_left
  · (intro w1 hS; go_simp; try with_reducible rfl)
  simp only [Act.put, tS1, tS2, tS3]
  refine tkA 32 (?_) ?_ (Below.refl _ _) ?_
  rotate_left
  · (intro w1 hS; go_simp; try with_reducible rfl)
  simp only [Act.put, tS1, tS2, tS3]
  refine tkA 33 (?_) ?_ (Below.refl _ _) ?_
  rotate_left
  · (intro w1 hS; go_simp; try with_reducible rfl)
  simp only [Act.put, tS1, tS2, tS3]
  refine tkA 34 (?_) ?_ (Below.refl _ _) ?_
  rotate_left
  · (intro w1 hS; go_simp; try with_reducible rfl)
  simp only [Act.put, tS1, tS2, tS3]
  refine tkA 35 (?_) ?_ (Below.refl _ _) ?_
  rotate_left
  · (intro w1 hS; go_simp; try with_reducible rfl)
  simp only [Act.put, tS1, tS2, tS3]
  refine tkA 36 (?_) ?_ (Below.refl _ _) ?_
  rotate_left
  · (intro w1 hS; have hW := E1.out.trans (hS.mono E1.out.size); have q := QE.out; clear hW hS; go_simp; try with_reducible rfl)
  simp only [Act.put, tS1, tS2, tS3]
  refine tkA 37 (?_) ?_ (Below.refl _ _) ?_
  rotate_left
  · (intro w1 hS; have hW := E1.out.trans (hS.mono E1.out.size); have q : (nb : Int) ≤ (e : Int) := (by omega); have q2 : (e : Int) ≤ (cb : Int) := (by omega); have q3 := WE.out; clear hW hS; go_simp; try with_reducible rfl)
  simp only [Act.put, tS1, tS2, tS3]
  refine tkA 38 (?_) ?_ (Below.refl _ _) ?_
  rotate_left
  · (intro w1 hS; have hW := E1.out.trans (hS.mono E1.out.size); have q := conv_rd w1 22 9 5 Try.underlying22 Try.underlying5 Try.underlying9 _ _ (R2.out.below hW); clear hW hS; go_simp; try with_reducible rfl)
  simp only [Act.put, tS1, tS2, tS3]
  refine tkA 39 (?_) ?_ (Below.refl _ _) ?_
  rotate_left
  · (intro w1 hS; go_simp; try with_reducible rfl)
  simp only [Act.put, tS1, tS2, tS3]
  refine tkA 40 (?_) ?_ (Below.refl _ _) ?_
  rotate_left
  · (intro w1 hS; go_simp; try with_reducible rfl)
  simp only [Act.put, tS1, tS2, tS3]
  refine tkA 41 (?_) ?_ (Below.refl _ _) ?_
  rotate_left
  · (intro w1 hS; go_simp; try with_reducible rfl)
  simp only [Act.put, tS1, tS2, tS3]
  refine tkO 42 (fun KK hK => ?_)
  go_simp
  refine (HA.out Y13x1).mono ?_
  rintro e Y13x2 ⟨rfl, hy⟩
  have E2 := Lib.hid (E1.out.trans (hy.mono E1.out.size))
  have C2 := Lib.hid hy
  clear hy E1
  refine hK.out _ _ C2.out (fun _ => ?_)
  clear hK KK
  refine wpAnyH_mono (S' := (fun w' : World => Below Y13x2.heap.size Y13x2 w')) (fun w1 h => C2.out.trans (h.mono C2.out.size)) _ _ _ _ ?_
  clear C2
  try simp only [Act.put, tS1, tS2, tS3]
  refine tkA 43 (?_) ?_ (Below.refl _ _) ?_
  rotate_left
  · (intro w1 hS; go_simp; try with_reducible rfl)
  simp only [Act.put, tS1, tS2, tS3]
  refine tkA 44 (?_) ?_ (Below.refl _ _) ?_
  rotate_left
  · (intro w1 hS; go_simp; try with_reducible rfl)
  simp only [Act.put, tS1, tS2, tS3]
  refine wpAnyH_done (by kernel_rfl) ?_ _
  have hy := E2.out
  replace K := Lib.hid (K.out.trans (hy.mono K.out.size))
  replace RB := Lib.hid (RB.out.below hy)
  replace ND := Lib.hid (ND.out.below hy ND.out.lt)
  replace RX := Lib.hid (RX.out.below hy)
  replace RY := Lib.hid (RY.out.below hy)
  replace NT := Lib.hid (NT.out.below hy NT.out.lt)
  replace RE := Lib.hid (RE.out.below hy)
  replace R1 := Lib.hid (R1.out.below hy)
  replace R2 := Lib.hid (R2.out.below hy)
  replace R3 := Lib.hid (R3.out.below hy)
  clear hy E2
  go_wp2
  go_ret
  exact ⟨rfl, K.out⟩
set_option maxRecDepth 100000 in
set_option maxHeartbeats 1000000 in
theorem back_walk (n : Int) (v6 udp : Bool) (a : Option Addr) (la ca : Nat) (zs : List Nat) (tag : Bool) (pad m : Int) (d6 : Bool) (w : World) (hr : Rd w (.slice a la ca) (nus .u8 zs)) (hL : zs.length = la) (hna : a = none → ca = 0) (hb : ∀ c ∈ zs, c < 256) :
    Calls Try.prog 3 #[.int .i64 n, .bool v6, .bool udp, .slice a la ca, .bool tag, .int .i64 pad, .int .i64 m, .bool d6] w fun e w' => e = .returned (.bool true) ∧ Below w.heap.size w w' := by
  by_cases h : 400 < la ∨ pad < 0 ∨ 40 < pad
  · have HA := Lib.hid (fun W => awake_any W)
    clear hr hL hna hb
    by_cases h1 : 400 < la
    · clear h
      go_enter Try.func3, Try.ntmps3
      go_wp2_with fail
      refine (HA.out _).mono ?_
      rintro e w2 ⟨rfl, hy⟩
      go_wp2
      go_ret
      exact ⟨rfl, hy⟩
    · by_cases h2 : pad < 0
      · clear h
        go_enter Try.func3, Try.ntmps3
        go_wp2_with fail
        refine (HA.out _).mono ?_
        rintro e w2 ⟨rfl, hy⟩
        go_wp2
        go_ret
        exact ⟨rfl, hy⟩
      · have h3 : 40 < pad := by omega
        clear h
        go_enter Try.func3, Try.ntmps3
        go_wp2_with fail
        refine (HA.out _).mono ?_
        rintro e w2 ⟨rfl, hy⟩
        go_wp2
        go_ret
        exact ⟨rfl, hy⟩
  · obtain ⟨k, rfl⟩ := Int.eq_ofNat_of_zero_le (show 0 ≤ pad by omega)
    cases d6
    · exact back_four n v6 udp a la ca zs tag k m w hr hL hna hb (by omega) (by omega)
    · exact back_six n v6 udp a la ca zs tag k m w hr hL hna hb (by omega) (by omega)
end Go.Proofs.Ytnpibdjfafpegaa
