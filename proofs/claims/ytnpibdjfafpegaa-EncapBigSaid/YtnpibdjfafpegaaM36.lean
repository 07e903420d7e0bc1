/- Texts that the walks of this seat lean on, put together. -/
import Derived.Test.YtnpibdjfafpegaaTk
import Derived.Test.YtnpibdjfafpegaaM13
import Derived.Test.YtnpibdjfafpegaaM16
import Derived.Test.YtnpibdjfafpegaaM21
import Derived.Test.YtnpibdjfafpegaaM23
namespace Go.Proofs.Ytnpibdjfafpegaa
open Go.RowKit
set_option maxRecDepth 100000 in
set_option maxHeartbeats 8000000 in
theorem build_u6 (sb db : List Nat) (sp dp f pad : Nat) (a : Option Addr) (la ca : Nat) (zs : List Nat) (tag : Bool) (w : World) (hr : Rd w (.slice a la ca) (nus .u8 zs)) (hL : zs.length = la) (hna : a = none → ca = 0) (hb : ∀ c ∈ zs, c < 256) (hz : la ≤ 2000)
    (hl1 : sb.length = 16) (hl2 : db.length = 16) (hb1 : ∀ c ∈ sb, c < 256) (hb2 : ∀ c ∈ db, c < 256) (hv1 : vldA true sb = true) (hv2 : vldA true db = true) (hsp : sp < 65536) (hdp : dp < 65536) (hf : f < 256) (hpad : pad ≤ 100) :
    Calls Try.prog 8 #[.agg (kcells 17 (cellsA true sb) (cellsA true db) sp dp), .int .u8 (f : Int), .slice a la ca, .bool tag, .bool false, .int .i64 (pad : Int)] w fun e w' => ∃ x n, e = .returned x ∧ w'.ownsRow w.heap.size 5 1 x n (nus .u8 (frmB true sb db 17 sp dp f zs tag false pad)) ∧ Below w.heap.size w w' := by
  have HR := Lib.hid hr
  have hlm : la ≤ ca ∧ ca ≤ maxLen := by obtain ⟨a', c', e, h1, h2⟩ := rd_shape hr; cases e; omega
  unfold maxLen at hlm
  obtain ⟨hk0, hk1, hk18, hk35, hk36⟩ := kget true sb db hl1 hl2 17 sp dp
  have CV1 := Lib.hid (fun W => ref_adr true sb hl1 W)
  have CV2 := Lib.hid (fun W => ref_adr true db hl2 W)
  rw [hv1] at CV1
  rw [hv2] at CV2
  have CB1 := Lib.hid (fun W => rbytes_own true sb hl1 W)
  have CB2 := Lib.hid (fun W => rbytes_own true db hl2 W)
  have lF := bytesA_len true sb hl1
  have lD := bytesA_len true db hl2
  obtain ⟨m1, hm1⟩ : ∃ m, m = (bytesA true sb).length := ⟨_, rfl⟩
  obtain ⟨m2, hm2⟩ : ∃ m, m = (bytesA true db).length := ⟨_, rfl⟩
  have h1 : 0 < m1 ∧ m1 ≤ 16 := by rw [hm1, lF]; simp
  have h2 : 0 < m2 ∧ m2 ≤ 16 := by rw [hm2, lD]; simp
  rw [← hm1] at CB1
  rw [← hm2] at CB2
  obtain ⟨s0, hs0⟩ : ∃ s, s = seg0 17 sp dp f zs := ⟨_, rfl⟩
  obtain ⟨n, hn⟩ : ∃ n : Nat, n = 8 + la := ⟨_, rfl⟩
  have ln : s0.length = n := by rw [hs0, seg0_len, hL, hn]; rfl
  have hs0b : ∀ c ∈ s0, c < 256 := by rw [hs0]; exact seg0_lt _ _ _ _ _ hf hb
  obtain ⟨cB, hcB⟩ : ∃ c, c = ckB 17 true sb db s0 := ⟨_, rfl⟩
  have hcl : cB < 65536 := by rw [hcB]; exact ckB_lt _ _ _ _ _
  obtain ⟨SG, hSG⟩ : ∃ s, s = segB 17 true sb db sp dp f zs false := ⟨_, rfl⟩
  have HSG : Hid (SG = ov s0 (bg 2 cB) 6) := by show _ = _; rw [hSG, hcB, hs0]; unfold segB; simp [sAt]
  have lSG : SG.length = n := by rw [hSG, segB_len 17 (by simp), hL, hn]; rfl
  have CM := Lib.hid (fun W => Go.Proofs.Ytnpibdjfafpegaa.rmake_yes sb db 17 n W hl1 hl2 (by omega))
  obtain ⟨HB, hHB⟩ : ∃ h, h = mk6 sb db 17 n := ⟨_, rfl⟩
  rw [← hHB] at CM
  have HF : Hid (frmB true sb db 17 sp dp f zs tag false pad = [1, 2, 3, 4, 5, 6, 7, 8, 9, 10, 11, 12] ++ (if tag then [129, 0, 0, 7] else []) ++ [134, 221] ++ HB ++ SG ++ List.replicate pad 0) := by
    show _ = _
    rw [hHB, hSG, hn]
    unfold frmB ethB headB hsz
    rw [hL]
    rfl
  have HH0 := Lib.hid (show (((((((List.replicate 8 0).set 4 (n / 256)).set (4 + 1) (n % 256)).set 0 (sp / 256)).set (0 + 1) (sp % 256)).set 2 (dp / 256)).set (2 + 1) (dp % 256)) ++ zs = s0 by rw [hs0, hn]; unfold seg0; rw [hL, hdr_udp sp dp f la hsp hdp (by omega)])
  obtain ⟨gt, hgt⟩ : ∃ g, g = gr (tsum 17 s0 true sb db) := ⟨_, rfl⟩
  have hgtl : gt ≤ 65535 := by rw [hgt]; exact gr_le _
  obtain ⟨ck0, hck⟩ : ∃ c, c = 65535 - gt := ⟨_, rfl⟩
  have HCK : Hid (cB = if ck0 = 0 then 65535 else ck0) := by show _ = _; rw [hcB]; unfold ckB; rw [← hgt, ← hck]; simp
  have hsub : (65535 : Int) - (gt : Int) = (ck0 : Int) := by omega
  obtain ⟨d3, hd3⟩ : ∃ d, d = n / 256 % 256 := ⟨_, rfl⟩
  obtain ⟨d4, hd4⟩ : ∃ d, d = n % 256 := ⟨_, rfl⟩
  have hw3 : IntKind.u8.wrap ((n : Int) / 256) = (d3 : Int) := by rw [IntKind.wrap_u8]; omega
  have hw4 : IntKind.u8.wrap (n : Int) = (d4 : Int) := by rw [IntKind.wrap_u8]; omega
  obtain ⟨ps, hps⟩ : ∃ s, s = psd true sb db 17 n := ⟨_, rfl⟩
  have HX : Hid (bytesA true sb ++ bytesA true db ++ [0, 0, d3, d4, 0, 0, 0, 17] = ps) := by
    show _ = _
    rw [hps, hd3, hd4]
    unfold psd
    have e1 : n / 256 / 256 = 0 := by omega
    simp [bg, e1]
  have lps : ps.length = 40 := by rw [hps, psd_len _ _ _ _ _ hl1 hl2]; rfl
  have CSM := Lib.hid (fun W x (h : Rd W x (nus .u8 (ps ++ s0))) => rsum4_any x (ps ++ s0) 0 W h (by rw [List.length_append, lps, ln]; omega) (fun c hc => by
    rcases List.mem_append.1 hc with h | h
    · rw [hps] at h; exact psd_lt true sb db 17 n hb1 hb2 (by omega) c h
    · exact hs0b c h) (by omega))
  have hws : wsp 0 (ps ++ s0) = tsum 17 s0 true sb db := by rw [hps, ← ln]; exact wsp_joined true sb db 17 s0 hl1 hl2
  rw [hws, Nat.zero_add, ← hgt] at CSM
  unfold adr at CV1 CV2 CB1 CB2 CM
  have KP1 := Lib.hid (kcells_src 17 (cellsA true sb) (cellsA true db) sp dp)
  have zS : (cellsA true sb).size = 17 := by rw [cellsA_size, hl1]
  have zD : (cellsA true db).size = 17 := by rw [cellsA_size, hl2]
  have KP2 := Lib.hid (kcells_dst 17 (cellsA true sb) (cellsA true db) sp dp zS)
  have IS := Lib.hid (i24.trans (congrArg some (show (17 : Nat) = (cellsA true sb).toList.length by simp [zS])))
  have ID := Lib.hid (i24.trans (congrArg some (show (17 : Nat) = (cellsA true db).toList.length by simp [zD])))
  have IK := Lib.hid (show True from trivial)
  have HK0 := Lib.hid hk0
  have HK1 := Lib.hid hk1
  have HK18 := Lib.hid hk18
  have HK35 := Lib.hid hk35
  have HK36 := Lib.hid hk36
  have HLN := Lib.hid ln
  have HLG := Lib.hid lSG
  have HNA := Lib.hid hna
  have HLZ := Lib.hid hL
  have HN := Lib.hid hn
  have hnl : n ≤ 2020 := by omega
  have hn0 : 0 < n := by omega
  have hHZ : 8 + la = n := by omega
  have K := Lib.hid (Below.refl w.heap.size w)
  have hd1 : decide ((2000 : Int) < (la : Int)) = false := decide_eq_false (by omega)
  have hd2 : decide ((pad : Int) < 0) = false := decide_eq_false (by omega)
  have hd5 : decide ((100 : Int) < (pad : Int)) = false := decide_eq_false (by omega)
  clear hr hL hna hb hl1 hl2 hb1 hb2 hv1 hv2 hk0 hk1 hk18 hk35 hk36 zS zD lF lD hm1 hm2 hs0 hn ln hs0b hcB hSG lSG hHB hgt hck hd3 hd4 hps lps hws
  generalize frmB true sb db 17 sp dp f zs tag false pad = FR at *
  generalize kcells 17 (cellsA true sb) (cellsA true db) sp dp = kc at *
  generalize cellsA true sb = S at *
  generalize cellsA true db = D at *
  generalize bytesA true sb = bf at *
  generalize bytesA true db = bd at *
  go_enter Try.func8, Try.ntmps8
  have hal := (Below.refl w.heap.size w).alloc (Nat.le_refl _) (.cells kc 30)
  replace K := Lib.hid (K.out.trans (hal.mono K.out.size))
  have N := Lib.hid (Blk.new w 30 kc)
  clear hal
  have L1 := (N.out.cell 0).trans HK0.out
  have L2 := (N.out.cell 0).trans HK0.out
  have L3 : (loadVar 27 ⟨w.heap.size, 1, none⟩).run Try.prog (w.alloc (.cells kc 30)) = .ok (.agg S) (w.alloc (.cells kc 30)) := by have h := run_part_load (P := Try.prog) 27 1 S.toList _ N.out KP1.out Try.underlying27 rfl IS.out; rwa [Array.toArray_toList] at h
  replace L3 := Lib.hid L3
  go_wp2_with (((with_reducible refine wpList_load_want (op := ⟨some 30, .load 27 (.tmp 29), _, _, _, _⟩) ?wg3 27 (.tmp 29) ?wo3 ⟨w.heap.size, 1, none⟩ ?wx3 (.agg S) L3.out ?_); (case wg3 => rfl); (case wo3 => rfl); (case wx3 => rfl)))
  clear L1 L2 L3
  have hzV1 : Hid ((w.alloc (.cells kc 30)).heap.size = w.heap.size + 1) := by show _ = _; simp only [World.size_alloc]
  generalize (w.alloc (.cells kc 30)) = V1 at *
  refine (CV1.out _).mono ?_
  rintro e V2 ⟨rfl, hy⟩
  replace K := Lib.hid (K.out.trans (hy.mono K.out.size))
  replace N := Lib.hid (N.out.below hy N.out.lt)
  clear hy
  have L4 : (loadVar 27 ⟨w.heap.size, 18, none⟩).run Try.prog V2 = .ok (.agg D) V2 := by have h := run_part_load (P := Try.prog) 27 18 D.toList _ N.out KP2.out Try.underlying27 rfl ID.out; rwa [Array.toArray_toList] at h
  replace L4 := Lib.hid L4
  go_wp2_with (((with_reducible refine wpList_load_want (op := ⟨some 36, .load 27 (.tmp 35), _, _, _, _⟩) ?wg4 27 (.tmp 35) ?wo4 ⟨w.heap.size, 18, none⟩ ?wx4 (.agg D) L4.out ?_); (case wg4 => rfl); (case wo4 => rfl); (case wx4 => rfl)))
  clear L4
  refine (CV2.out _).mono ?_
  rintro e V3 ⟨rfl, hy⟩
  replace K := Lib.hid (K.out.trans (hy.mono K.out.size))
  replace N := Lib.hid (N.out.below hy N.out.lt)
  clear hy
  have L5 := (N.out.cell 1).trans HK1.out
  have L6 := (N.out.cell 18).trans HK18.out
  have L7 := (N.out.cell 0).trans HK0.out
  have hN0 := N.out.lt
  go_upto_region 8 with fail
  clear L5 L6 L7
  obtain ⟨i0, hi, hz0, hz1, hz2⟩ := info_parts Try.info5
  have hbase : w.heap.size + 1 ≤ V3.heap.size := N.out.lt
  go_wp2_with ((at_make; refine wpList_make_full _ rfl _ _ 22 rfl (w.heap.size + 1) 5 i0 (.int .u8 0) 1 Try.underlying22 hi hz0 hz1 .i64 .i64 _ _ 8 rfl rfl ?mk8a ?mk8b ?mk8c ?mk8d hbase ?_))
  case mk8a => omega
  case mk8b => omega
  case mk8c => rw [hz2]; omega
  case mk8d => unfold maxLen; omega
  intro V4 o1 g1
  rw [toList_madeCells_one] at o1
  have hy := below_none g1
  replace K := Lib.hid (K.out.trans (hy.mono K.out.size))
  replace N := Lib.hid (N.out.below hy N.out.lt)
  have gsz := g1.size
  have SR := Lib.hid (show V4.ownsRow (w.heap.size + 1) 5 1 _ 8 (nus .u8 (List.replicate 8 0)) from o1)
  clear o1 g1 hi hz0 hz1 hz2 hbase hy
  obtain ⟨gs, hgs⟩ : ∃ g, g = V3.heap.size := ⟨_, rfl⟩
  rw [← hgs] at SR ⊢
  have hgs1 : w.heap.size + 1 ≤ gs := by rw [hgs]; exact hN0
  have hgs2 : gs < V4.heap.size := own_in SR.out
  clear hgs
  have hm : 8 ≤ maxLen := by simp [maxLen]
  have LS0 : Hid ((List.replicate 8 0).length = 8) := by show _ = _; simp
  have h8i : (8 : Int) + (la : Int) = (n : Int) := by omega
  go_wp2_with fail
  clear h8i
  refine (rput16_any gs 8 8 (w.heap.size + 1) 4 n _ V4 SR.out hm (by omega) (by omega)).mono ?_
  rintro e V5 ⟨rfl, og, gr⟩
  replace K := Lib.hid (K.out.grown gr K.out.size (fun k e => by first | (cases e; done) | (cases e; first | exact Nat.le_refl _ | omega)))
  replace N := Lib.hid (show Blk _ _ _ _ from (gr.block _ N.out.lt (by first | (simp; done) | (simp; omega))).trans N.out)
  replace SR := Lib.hid og
  clear og gr
  have L9 := (N.out.cell 35).trans HK35.out
  go_wp2_with fail
  clear L9
  refine (rput16_any gs 8 8 (w.heap.size + 1) 0 sp _ V5 SR.out hm (by omega) hsp).mono ?_
  rintro e V6 ⟨rfl, og, gr⟩
  replace K := Lib.hid (K.out.grown gr K.out.size (fun k e => by first | (cases e; done) | (cases e; first | exact Nat.le_refl _ | omega)))
  replace N := Lib.hid (show Blk _ _ _ _ from (gr.block _ N.out.lt (by first | (simp; done) | (simp; omega))).trans N.out)
  replace SR := Lib.hid og
  clear og gr
  have L10 := (N.out.cell 36).trans HK36.out
  go_wp2_with fail
  clear L10
  refine (rput16_any gs 8 8 (w.heap.size + 1) 2 dp _ V6 SR.out hm (by omega) hdp).mono ?_
  rintro e V7 ⟨rfl, og, gr⟩
  replace K := Lib.hid (K.out.grown gr K.out.size (fun k e => by first | (cases e; done) | (cases e; first | exact Nat.le_refl _ | omega)))
  replace N := Lib.hid (show Blk _ _ _ _ from (gr.block _ N.out.lt (by first | (simp; done) | (simp; omega))).trans N.out)
  replace SR := Lib.hid og
  clear og gr
  obtain ⟨hdr, hhdr⟩ : ∃ x, x = ((((((List.replicate 8 0).set 4 (n / 256)).set (4 + 1) (n % 256)).set 0 (sp / 256)).set (0 + 1) (sp % 256)).set 2 (dp / 256)).set (2 + 1) (dp % 256) := ⟨_, rfl⟩
  rw [← hhdr] at SR HH0
  clear hhdr
  have hbS : w.heap.size + 1 ≤ V7.heap.size := N.out.lt
  go_wp2_with ((at_builtin; refine wpList_app rfl (.tmp 87) (.tmp 88) rfl (w.heap.size + 1) _ (8) hdr rfl SR.out (a) (la) (ca) zs rfl (HR.out.below K.out) HNA.out ?ap11b ?ap11c ?ap11d))
  case ap11b => omega
  case ap11c => exact hbS
  intro vx V8 oz gz
  have gr : V7.grownBy V8 (some gs) := gz
  replace K := Lib.hid (K.out.grown gr K.out.size (fun k e => by first | (cases e; done) | (cases e; first | exact Nat.le_refl _ | omega)))
  replace N := Lib.hid (show Blk _ _ _ _ from (gr.block _ N.out.lt (by first | (simp; done) | (simp; omega))).trans N.out)
  have oz : V8.ownsRow (w.heap.size + 1) 5 1 vx n (nus .u8 (hdr ++ zs)) := by first | exact oz | (rw [hHZ] at oz; exact oz) | simpa using oz
  rw [HH0.out] at oz
  replace SR := Lib.hid oz
  clear oz gz gr hgs1 hgs2
  obtain ⟨gs, cs, rfl, hcs, hcsm, hgs1, hgs2⟩ := own_at SR.out (by omega)
  clear hbS HH0 LS0 hHZ
  have hlow : V8.heap.size ≤ V8.heap.size := Nat.le_refl _
  have qK := K.out.size
  have qN := N.out.lt
  go_upto_region 13 with fail
  refine wp_region_held (S := (fun w' : World => Below (V8.heap.size) V8 w')) (by kernel_rfl) ?_
  change wpAnyH _ _ _ _ _ _ _ _ V8.drew
  have hy : Below V8.heap.size V8 V8.drew := (Below.refl _ _).drew
  have hE0 : Below (V8.heap.size) V8 V8.drew := (Below.refl _ _).drew
  clear hy
  generalize V8.drew = Y13x0 at hE0  ⊢
  have E0 := Lib.hid hE0
  clear hE0
  refine tkA 0 (?_) ?_ E0.out ?_
  rotate_left
  · (intro w1 hS; go_simp; try with_reducible rfl)
  simp only [Act.put, tS1, tS2, tS3]
  refine tkA 1 (.agg S) ?_ E0.out ?_
  · (intro w1 hS; have hW := hS; exact exec_load 27 (.tmp 90) rfl _ rfl _ (by have h := run_part_load (P := Try.prog) 27 1 S.toList _ (N.out.below hW (by omega)) KP1.out Try.underlying27 rfl IS.out; rwa [Array.toArray_toList] at h))
  simp only [Act.put, tS1, tS2, tS3]
  refine tkA 3 (?_) ?_ E0.out ?_
  rotate_left
  · (intro w1 hS; go_simp; try with_reducible rfl)
  simp only [Act.put, tS1, tS2, tS3]
  refine tkA 4 (.agg D) ?_ E0.out ?_
  · (intro w1 hS; have hW := hS; exact exec_load 27 (.tmp 93) rfl _ rfl _ (by have h := run_part_load (P := Try.prog) 27 18 D.toList _ (N.out.below hW (by omega)) KP2.out Try.underlying27 rfl ID.out; rwa [Array.toArray_toList] at h))
  simp only [Act.put, tS1, tS2, tS3]
  refine tkO 2 (fun KK hK => ?_)
  go_simp
  refine (CB1.out Y13x0).mono ?_
  rintro e Y13x1 ⟨z1, rfl, hz1, hy⟩
  have E1 := Lib.hid (E0.out.trans (hy.mono (Nat.le_trans hlow E0.out.size)))
  have C1 := Lib.hid E1.out
  have Z1 := Lib.hid (own_low E0.out.size hz1)
  clear hz1
  clear hy E0
  refine hK.out _ _ C1.out (fun _ => ?_)
  clear hK KK
  clear C1
  try simp only [Act.put, tS1, tS2, tS3]
  obtain ⟨g1, k1, rfl, -, -, hg1, -⟩ := own_at Z1.out (by omega)
  refine tkO 5 (fun KK hK => ?_)
  go_simp
  refine (CB2.out Y13x1).mono ?_
  rintro e Y13x2 ⟨z2, rfl, hz2, hy⟩
  replace Z1 := Lib.hid (row_under Z1.out hy)
  have E2 := Lib.hid (E1.out.trans (hy.mono (Nat.le_trans hlow E1.out.size)))
  have C2 := Lib.hid E2.out
  have Z2 := Lib.hid (hz2)
  clear hz2
  clear hy E1
  refine hK.out _ _ C2.out (fun _ => ?_)
  clear hK KK
  clear C2
  try simp only [Act.put, tS1, tS2, tS3]
  obtain ⟨g2, k2, rfl, -, -, -, -⟩ := own_at Z2.out (by omega)
  refine tkO 6 (fun KK hK => ?_)
  rw [if_pos (by rfl)]
  refine wp_app (.tmp 92) (.tmp 95) rfl (V8.heap.size) (.slice (some ⟨g1, 0, none⟩) m1 k1) m1 bf rfl Z1.out (some ⟨g2, 0, none⟩) (m2) (k2) bd rfl (Rd.own Z2.out) (by intro e; cases e) (by omega) (Nat.le_trans hlow E2.out.size) ?_
  intro vx Y13x3 oz gz
  clear Z2
  replace Z1 := Lib.hid oz
  clear oz
  have E3 := Lib.hid (E2.out.grown gz (Nat.le_trans hlow E2.out.size) (fun k e => by cases e; first | exact Nat.le_refl _ | omega))
  obtain ⟨g3, k3, rfl, hk3, hk3m, hg3, hg3u⟩ := own_at Z1.out (by omega)
  clear gz E2
  refine hK.out _ _ E3.out (fun _ => ?_)
  clear hK KK
  try simp only [Act.put, tS1, tS2, tS3]
  refine tkA 7 (?_) ?_ E3.out ?_
  rotate_left
  · (intro w1 hS; go_simp; try with_reducible rfl)
  simp only [Act.put, tS1, tS2, tS3]
  refine wpAnyH_done (by kernel_rfl) ?_ _
  have L := Lib.hid E3.out
  have P := Lib.hid Z1.out
  clear E3 Z1
  have NC := Lib.hid (N.out.below L.out qN)
  have hb1 := (NC.out.cell 1).trans HK1.out
  have hb0 := (NC.out.cell 0).trans HK0.out
  have hal := (Below.refl Y13x3.heap.size Y13x3).alloc (Nat.le_refl _) (.cells #[Value.int .u8 0, Value.int .u8 0, .int .u8 (d3 : Int), .int .u8 (d4 : Int), Value.int .u8 0, Value.int .u8 0, Value.int .u8 0, Value.int .u8 17] 5)
  have RL := Lib.hid (show Rd (Y13x3.alloc (.cells #[Value.int .u8 0, Value.int .u8 0, .int .u8 (d3 : Int), .int .u8 (d4 : Int), Value.int .u8 0, Value.int .u8 0, Value.int .u8 0, Value.int .u8 17] 5)) (.slice (some ⟨Y13x3.heap.size, 0, none⟩) 8 8) (nus .u8 [0, 0, d3, d4, 0, 0, 0, 17]) from rd_lit Y13x3 .u8 5 [0, 0, d3, d4, 0, 0, 0, 17] 8 (0, 0) rfl (by simp [maxLen]))
  replace P := Lib.hid (row_under P.out hal)
  replace L := Lib.hid (L.out.trans (hal.mono (Nat.le_trans hlow L.out.size)))
  clear hal
  go_wp2_with ((at_builtin; refine wpList_app rfl (.tmp 102) (.tmp 110) rfl (V8.heap.size) _ (m1 + m2) (bf ++ bd) rfl P.out (some ⟨Y13x3.heap.size, 0, none⟩) (8) (8) [0, 0, d3, d4, 0, 0, 0, 17] rfl (RL.out) (by intro e; cases e) ?ap12b ?ap12c ?ap12d))
  try (case ap12b => omega)
  case ap12c => first | exact Nat.le_trans hlow L.out.size | (have q := Nat.le_trans hlow L.out.size; simp only [World.size_alloc] at q; exact q)
  intro vx V9 oz gz
  replace L := Lib.hid (L.out.grown gz (Nat.le_trans hlow L.out.size) (fun k e => by first | exact (P.out.lt k e).1 | (cases e; first | exact Nat.le_refl _ | omega)))
  have oz : V9.ownsRow (V8.heap.size) 5 1 vx (m1 + m2 + 8) (nus .u8 (bf ++ bd ++ [0, 0, d3, d4, 0, 0, 0, 17])) := by first | exact oz | simpa using oz
  replace P := Lib.hid oz
  obtain ⟨g4, k4, rfl, hk4, hk4m, hg4, hg4u⟩ := own_at P.out (by omega)
  clear oz gz
  have e := HX.out
  have O3 := P.out
  rw [e] at O3
  replace P := Lib.hid O3
  clear e O3 HX hb1 hb0 NC RL
  have NC := Lib.hid (N.out.below L.out qN)
  have hb0 := (NC.out.cell 0).trans HK0.out
  have L13 := (N.out.cell 0).trans HK0.out
  go_wp2_with ((at_builtin; refine wpList_app rfl (.tmp 129) (.tmp 130) rfl (V8.heap.size) _ (m1 + m2 + 8) ps rfl P.out (some ⟨gs, 0, none⟩) (n) (cs) s0 rfl (Rd.own (row_under SR.out L.out)) (by intro e; cases e) ?ap14b ?ap14c ?ap14d))
  clear L13
  try (case ap14b => omega)
  case ap14c => first | exact Nat.le_trans hlow L.out.size | (have q := Nat.le_trans hlow L.out.size; simp only [World.size_alloc] at q; exact q)
  intro vx V10 oz gz
  replace L := Lib.hid (L.out.grown gz (Nat.le_trans hlow L.out.size) (fun k e => by first | exact (P.out.lt k e).1 | (cases e; first | exact Nat.le_refl _ | omega)))
  have oz : V10.ownsRow (V8.heap.size) 5 1 vx (m1 + m2 + 8 + n) (nus .u8 (ps ++ s0)) := by first | exact oz | simpa using oz
  replace P := Lib.hid oz
  obtain ⟨g5, k5, rfl, hk5, hk5m, hg5, hg5u⟩ := own_at P.out (by omega)
  clear oz gz
  go_wp2_with fail
  refine (CSM.out _ _ (Rd.own P.out)).mono ?_
  rintro e wz ⟨rfl, rfl⟩
  clear hb0 NC
  have NC := Lib.hid (N.out.below L.out qN)
  have hb0 := (NC.out.cell 0).trans HK0.out
  go_upto_region 20 with fail
  go_cut [16, 140] (fun v t wx => v = .int .i64 (ck0 : Int) ∧ t = .bool (decide (ck0 = 0)) ∧ wx = V10)
  case first =>
    by_cases h0 : ck0 = 0
    · subst h0
      go_wp2
      go_meet
      exact ⟨rfl, rfl, rfl⟩
    · have g0 : ((ck0 : Int) == 0) = false := by rw [beq_eq_false_iff_ne]; omega
      have H0 := Lib.hid h0
      clear h0
      go_wp2
      go_meet
      exact ⟨rfl, by first | rfl | rw [decide_eq_false H0.out], rfl⟩
  case rest =>
    obtain ⟨rfl, rfl, rfl⟩ := hcut
    go_upto_if 140 with fail
    go_cut [16] (fun v wx => v = .int .i64 (cB : Int) ∧ wx = wc)
    case first =>
      by_cases h0 : ck0 = 0
      · obtain rfl : cB = 65535 := by rw [HCK.out, if_pos h0]
        go_wp2
        go_meet
        exact ⟨rfl, rfl⟩
      · obtain rfl : cB = ck0 := by rw [HCK.out, if_neg h0]
        go_wp2
        go_meet
        exact ⟨rfl, rfl⟩
    case rest =>
      obtain ⟨rfl, rfl⟩ := hcut
      replace K := Lib.hid (K.out.trans (L.out.mono qK))
      have N2 := Lib.hid (N.out.below L.out qN)
      replace SR := Lib.hid (row_under SR.out L.out)
      clear L P NC hb0 qK qN N
      have N := N2
      clear N2
      have hb0 := (N.out.cell 0).trans HK0.out
      have CA : ∀ W, Calls Try.prog 24 #[.int .u8 17] W fun e w' => e = .returned (.int .i64 6) ∧ W = w' := fun W => rsumAt_any 17 (by simp) W
      have hmn : n ≤ maxLen := by unfold maxLen; omega
      have hat : 6 + 2 ≤ n := by have := HN.out; omega
      have L15 := (N.out.cell 0).trans HK0.out
      go_wp2_with fail
      clear L15
      refine (CA _).mono ?_
      rintro e V61 ⟨rfl, rfl⟩
      go_wp2_with fail
      refine (rput16_any gs n cs (w.heap.size + 1) 6 cB _ wc SR.out hmn hat hcl).mono ?_
      rintro e V62 ⟨rfl, og, gr⟩
      replace K := Lib.hid (K.out.grown gr K.out.size (fun k e => by first | (cases e; done) | (cases e; first | exact Nat.le_refl _ | omega)))
      replace N := Lib.hid (show Blk _ _ _ _ from (gr.block _ N.out.lt (by first | (simp; done) | (simp; omega))).trans N.out)
      replace SR := Lib.hid og
      clear og gr
      have s1 := SR.out
      rw [set_ov _ _ _ (by rw [HLN.out]; exact hat) hcl, ← HSG.out] at s1
      replace SR := Lib.hid s1
      clear s1 hmn hat CA hb0
      go_upto_region 23 with fail
      have hN0 := N.out.lt
      have SRo := SR
      obtain ⟨i0, hi, hz0, hz1, hz2⟩ := info_parts Try.info5
      have hbase : V62.heap.size ≤ V62.heap.size := Nat.le_refl _
      go_wp2_with ((at_make; refine wpList_make_full _ rfl _ _ 22 rfl (V62.heap.size) 5 i0 (.int .u8 0) 1 Try.underlying22 hi hz0 hz1 .i64 .i64 _ _ 12 rfl rfl ?mk16a ?mk16b ?mk16c ?mk16d hbase ?_))
      case mk16a => omega
      case mk16b => omega
      case mk16c => rw [hz2]; omega
      case mk16d => unfold maxLen; omega
      intro V63 o1 g1
      rw [toList_madeCells_one] at o1
      have hy := below_none g1
      replace K := Lib.hid (K.out.trans (hy.mono K.out.size))
      replace N := Lib.hid (N.out.below hy N.out.lt)
      replace SR := Lib.hid (row_under SR.out hy)
      have gsz := g1.size
      have BR := Lib.hid (show V63.ownsRow (V62.heap.size) 5 1 _ 12 (nus .u8 (List.replicate 12 0)) from o1)
      clear o1 g1 hi hz0 hz1 hz2 hbase hy
      obtain ⟨gb, hgb⟩ : ∃ g, g = V62.heap.size := ⟨_, rfl⟩
      rw [← hgb] at BR ⊢
      have hsb : gs < gb := by rw [hgb]; exact own_in (show V62.ownsRow _ _ _ _ _ _ from SRo.out)
      have hwb : w.heap.size < gb := by rw [hgb]; exact hN0
      have hlow : gb ≤ V63.heap.size := Nat.le_of_lt (own_in BR.out)
      clear hgb SRo
      go_wp2_with fail
      go_loopw [18] (fun i wr => ∃ j : Nat, j ≤ 12 ∧ i = .int .i64 (j : Int) ∧ Hid (wr.ownsRow gb 5 1 (.slice (some ⟨gb, 0, none⟩) 12 12) 12 (nus .u8 (f12 j))) ∧ Hid (Below gb V63 wr)) (fun i _ => 12 - (RowKit.intOf i).toNat)
      case atStart => exact ⟨0, by omega, rfl, by show World.ownsRow _ _ _ _ _ _ _; rw [f12_zero]; exact BR.out, Below.refl _ _⟩
      case round =>
        obtain ⟨j, hj, rfl, hO, hK⟩ := hrel
        by_cases hlt : j < 12
        · have t1 := hO.out.cellAt j (by omega)
          rw [nus_get _ _ _ (by rw [f12_len]; omega)] at t1
          have f1 := hO.out.frozenAt j
          have q1 := hO.out.stored j (.int .u8 ((j + 1 : Nat) : Int))
          rw [nus_set, f12_step j hlt] at q1
          have k1 := hK.out.grown q1.2 (Nat.le_trans hlow hK.out.size) (fun k e => by cases e; exact Nat.le_refl _)
          have Q := Lib.hid q1.1
          have KK := Lib.hid k1
          generalize (f12 j).getD j 0 = y1 at t1
          clear q1 k1
          have a1 : IntKind.i64.wrap ((j : Int) + 1) = (j : Int) + 1 := by rw [IntKind.wrap_i64]; omega
          have a2 : IntKind.u8.wrap ((j : Int) + 1) = (j : Int) + 1 := by rw [IntKind.wrap_u8]; omega
          have b1 : (0 : Int) ≤ (j : Int) ∧ (j : Int) < 12 := by omega
          go_wp2
          go_roundw
          case rel => exact ⟨j + 1, by omega, by go_num, Q, KK⟩
          case measure => simp [RowKit.intOf]; omega
        · obtain rfl : j = 12 := by omega
          have L := Lib.hid hK.out
          have B := Lib.hid hO.out
          clear hO hK hlt hj BR
          clear hgs1 hgs2
          obtain ⟨TG, hTG⟩ : ∃ T, T = [1, 2, 3, 4, 5, 6, 7, 8, 9, 10, 11, 12] ++ (if tag then [129, 0, 0, 7] else []) := ⟨_, rfl⟩
          obtain ⟨nt, hnt⟩ : ∃ n, n = if tag then 16 else 12 := ⟨_, rfl⟩
          have hntl : 12 ≤ nt ∧ nt ≤ 16 := by rw [hnt]; split <;> omega
          rw [← hTG] at HF
          have HTG := Lib.hid hTG
          have HNT := Lib.hid hnt
          rw [f12_all] at B
          clear hTG hnt
          go_upto_if 158 with fail
          go_cut [17] (fun v wx => ∃ g c, v = .slice (some ⟨g, 0, none⟩) nt c ∧ wx.ownsRow gb 5 1 v nt (nus .u8 TG) ∧ gb ≤ g ∧ Below gb V63 wx)
          case first =>
            cases tag with
            | false =>
              obtain rfl : nt = 12 := HNT.out
              have e : TG = [1, 2, 3, 4, 5, 6, 7, 8, 9, 10, 11, 12] := by rw [HTG.out]; rfl
              rw [← e] at B
              clear e
              go_wp2
              go_meet
              exact ⟨gb, 12, rfl, B.out, Nat.le_refl _, L.out⟩
            | true =>
              obtain rfl : nt = 16 := HNT.out
              have HE : Hid ([1, 2, 3, 4, 5, 6, 7, 8, 9, 10, 11, 12] ++ [129, 0, 0, 7] = TG) := by show _ = _; rw [HTG.out]; rfl
              have hal := (Below.refl wr.heap.size wr).alloc (Nat.le_refl _) (.cells #[Value.int .u8 129, Value.int .u8 0, Value.int .u8 0, Value.int .u8 7] 5)
              have RT := Lib.hid (show Rd (wr.alloc (.cells #[Value.int .u8 129, Value.int .u8 0, Value.int .u8 0, Value.int .u8 7] 5)) (.slice (some ⟨wr.heap.size, 0, none⟩) 4 4) (nus .u8 [129, 0, 0, 7]) from rd_lit wr .u8 5 [129, 0, 0, 7] 4 (0, 0) rfl (by simp [maxLen]))
              replace B := Lib.hid (row_under B.out hal)
              replace L := Lib.hid (L.out.trans (hal.mono (Nat.le_trans hlow L.out.size)))
              clear hal
              go_wp2_with ((at_builtin; refine wpList_app rfl (.tmp 159) (.tmp 160) rfl (gb) _ (12) [1, 2, 3, 4, 5, 6, 7, 8, 9, 10, 11, 12] rfl B.out (some ⟨wr.heap.size, 0, none⟩) (4) (4) [129, 0, 0, 7] rfl (RT.out) (by intro e; cases e) ?ap17b ?ap17c ?ap17d))
              try (case ap17b => omega)
              case ap17c => first | exact Nat.le_trans hlow L.out.size | (have q := Nat.le_trans hlow L.out.size; simp only [World.size_alloc] at q; exact q)
              intro vx V64 oz gz
              replace L := Lib.hid (L.out.grown gz (Nat.le_trans hlow L.out.size) (fun k e => by first | exact (B.out.lt k e).1 | (cases e; first | exact Nat.le_refl _ | omega)))
              have oz : V64.ownsRow (gb) 5 1 vx (16) (nus .u8 ([1, 2, 3, 4, 5, 6, 7, 8, 9, 10, 11, 12] ++ [129, 0, 0, 7])) := by first | exact oz | simpa using oz
              replace B := Lib.hid oz
              obtain ⟨g7, k7, rfl, hk7, hk7m, hg7, hg7u⟩ := own_at B.out (by omega)
              clear oz gz
              rw [HE.out] at B
              clear HE
              go_wp2
              go_meet
              exact ⟨_, _, rfl, B.out, hg7, L.out⟩
          case rest =>
            clear L B
            obtain ⟨gt1, ct1, rfl, hB, hgt1, hL⟩ := hcut
            have B := Lib.hid hB
            have L := Lib.hid hL
            clear hB hL
            have NC := Lib.hid (N.out.below L.out hwb)
            have hb1 := (NC.out.cell 1).trans HK1.out
            have hal := (Below.refl wc.heap.size wc).alloc (Nat.le_refl _) (.cells #[Value.int .u8 134, Value.int .u8 221] 5)
            have RE := Lib.hid (show Rd (wc.alloc (.cells #[Value.int .u8 134, Value.int .u8 221] 5)) (.slice (some ⟨wc.heap.size, 0, none⟩) 2 2) (nus .u8 [134, 221]) from rd_lit wc .u8 5 [134, 221] 2 (0, 0) rfl (by simp [maxLen]))
            replace B := Lib.hid (row_under B.out hal)
            replace L := Lib.hid (L.out.trans (hal.mono (Nat.le_trans hlow L.out.size)))
            clear hal
            go_wp2_with ((at_builtin; refine wpList_app rfl (.tmp 165) (.tmp 166) rfl (gb) _ (nt) TG rfl B.out (some ⟨wc.heap.size, 0, none⟩) (2) (2) [134, 221] rfl (RE.out) (by intro e; cases e) ?ap18b ?ap18c ?ap18d))
            try (case ap18b => omega)
            case ap18c => first | exact Nat.le_trans hlow L.out.size | (have q := Nat.le_trans hlow L.out.size; simp only [World.size_alloc] at q; exact q)
            intro vx V65 oz gz
            replace L := Lib.hid (L.out.grown gz (Nat.le_trans hlow L.out.size) (fun k e => by first | exact (B.out.lt k e).1 | (cases e; first | exact Nat.le_refl _ | omega)))
            have oz : V65.ownsRow (gb) 5 1 vx (nt + 2) (nus .u8 (TG ++ [134, 221])) := by first | exact oz | simpa using oz
            replace B := Lib.hid oz
            obtain ⟨g8, k8, rfl, hk8, hk8m, hg8, hg8u⟩ := own_at B.out (by omega)
            clear oz gz
            clear hb1 NC RE
            have NC := Lib.hid (N.out.below L.out hwb)
            have hb0 := (NC.out.cell 0).trans HK0.out
            have L19 : (loadVar 27 ⟨w.heap.size, 1, none⟩).run Try.prog V65 = .ok (.agg S) V65 := by have h := run_part_load (P := Try.prog) 27 1 S.toList _ NC.out KP1.out Try.underlying27 rfl IS.out; rwa [Array.toArray_toList] at h
            replace L19 := Lib.hid L19
            have L20 : (loadVar 27 ⟨w.heap.size, 18, none⟩).run Try.prog V65 = .ok (.agg D) V65 := by have h := run_part_load (P := Try.prog) 27 18 D.toList _ NC.out KP2.out Try.underlying27 rfl ID.out; rwa [Array.toArray_toList] at h
            replace L20 := Lib.hid L20
            go_wp2_with (first | ((with_reducible refine wpList_load_want (op := ⟨some 170, .load 27 (.tmp 169), _, _, _, _⟩) ?wg19 27 (.tmp 169) ?wo19 ⟨w.heap.size, 1, none⟩ ?wx19 (.agg S) L19.out ?_); (case wg19 => rfl); (case wo19 => rfl); (case wx19 => rfl)) | ((with_reducible refine wpList_load_want (op := ⟨some 172, .load 27 (.tmp 171), _, _, _, _⟩) ?wg20 27 (.tmp 171) ?wo20 ⟨w.heap.size, 18, none⟩ ?wx20 (.agg D) L20.out ?_); (case wg20 => rfl); (case wo20 => rfl); (case wx20 => rfl)))
            clear L19 L20
            refine (CM.out _).mono ?_
            rintro e V66 ⟨hx, rfl, oh, hy⟩
            replace L := Lib.hid (L.out.trans (hy.mono (Nat.le_trans hlow L.out.size)))
            replace B := Lib.hid (row_under B.out hy)
            have H := Lib.hid oh
            obtain ⟨gh, ch, rfl, hch, hchm, -, -⟩ := own_at H.out (by omega)
            clear oh hy hb0 NC
            go_wp2_with ((at_builtin; refine wpList_app rfl (.tmp 193) (.tmp 194) rfl (gb) _ (nt + 2) (TG ++ [134, 221]) rfl B.out (some ⟨gh, 0, none⟩) (40) (ch) HB rfl (Rd.own H.out) (by intro e; cases e) ?ap21b ?ap21c ?ap21d))
            try (case ap21b => omega)
            case ap21c => first | exact Nat.le_trans hlow L.out.size | (have q := Nat.le_trans hlow L.out.size; simp only [World.size_alloc] at q; exact q)
            intro vx V67 oz gz
            replace L := Lib.hid (L.out.grown gz (Nat.le_trans hlow L.out.size) (fun k e => by first | exact (B.out.lt k e).1 | (cases e; first | exact Nat.le_refl _ | omega)))
            have oz : V67.ownsRow (gb) 5 1 vx (nt + 2 + 40) (nus .u8 (TG ++ [134, 221] ++ HB)) := by first | exact oz | simpa using oz
            replace B := Lib.hid oz
            obtain ⟨g9, k9, rfl, hk9, hk9m, hg9, hg9u⟩ := own_at B.out (by omega)
            clear oz gz
            clear H
            go_wp2_with ((at_builtin; refine wpList_app rfl (.tmp 195) (.tmp 196) rfl (gb) _ (nt + 2 + 40) (TG ++ [134, 221] ++ HB) rfl B.out (some ⟨gs, 0, none⟩) (n) (cs) SG rfl (Rd.own (own_keep SR.out L.out hsb)) (by intro e; cases e) ?ap22b ?ap22c ?ap22d))
            try (case ap22b => omega)
            case ap22c => first | exact Nat.le_trans hlow L.out.size | (have q := Nat.le_trans hlow L.out.size; simp only [World.size_alloc] at q; exact q)
            intro vx V68 oz gz
            replace L := Lib.hid (L.out.grown gz (Nat.le_trans hlow L.out.size) (fun k e => by first | exact (B.out.lt k e).1 | (cases e; first | exact Nat.le_refl _ | omega)))
            have oz : V68.ownsRow (gb) 5 1 vx (nt + 2 + 40 + n) (nus .u8 (TG ++ [134, 221] ++ HB ++ SG)) := by first | exact oz | simpa using oz
            replace B := Lib.hid oz
            obtain ⟨g10, k10, rfl, hk10, hk10m, hg10, hg10u⟩ := own_at B.out (by omega)
            clear oz gz
            go_wp2_with (refine wpList_zerosN rfl (.tmp 197) (.tmp 198) pad rfl rfl gb g10 (nt + 2 + 40 + n) k10 _ rfl B.out ?zza ?zzb ?_)
            case zza => omega
            case zzb => exact Nat.le_trans hlow L.out.size
            intro vx V69 oz gz
            have L2 := Lib.hid (L.out.grown gz (Nat.le_trans hlow L.out.size) (fun k e => by cases e; exact hg10))
            have e : TG ++ [134, 221] ++ HB ++ SG ++ List.replicate pad 0 = FR := HF.out.symm
            have oz : V69.ownsRow gb 5 1 vx (nt + 2 + 40 + n + pad) (nus .u8 (TG ++ [134, 221] ++ HB ++ SG ++ List.replicate pad 0)) := by first | exact oz | simpa using oz
            rw [e] at oz
            have O := Lib.hid (own_low (Nat.le_of_lt hwb) oz)
            have KE := Lib.hid (K.out.trans (L2.out.mono (Nat.le_of_lt hwb)))
            clear oz gz e L L2 B
            go_wp2
            go_ret
            exact ⟨_, _, rfl, O.out, KE.out⟩
end Go.Proofs.Ytnpibdjfafpegaa
