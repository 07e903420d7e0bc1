/- Texts that the walks of this seat lean on, put together. -/
import Derived.Test.YtnpibdjfafpegaaTk
import Derived.Test.YtnpibdjfafpegaaM28
import Derived.Test.YtnpibdjfafpegaaM44
namespace Go.Proofs.Ytnpibdjfafpegaa
open Go.RowKit
set_option maxRecDepth 100000 in
set_option maxHeartbeats 4000000 in
theorem twice_walk (n : Int) (v6 d6 : Bool) (a : Option Addr) (la ca : Nat) (zs : List Nat) (w : World) (hr : Rd w (.slice a la ca) (nus .u8 zs)) (hL : zs.length = la) (hna : a = none → ca = 0) (hb : ∀ c ∈ zs, c < 256) :
    Calls Try.prog 6 #[.int .i64 n, .bool v6, .bool d6, .slice a la ca] w fun e w' => e = .returned (.bool true) ∧ Below w.heap.size w w' := by
  have K := Lib.hid (Below.refl w.heap.size w)
  have HA := Lib.hid (fun W => awake_any W)
  by_cases h200 : 200 < la
  · clear hr hL hna hb
    go_enter Try.func6, Try.ntmps6
    go_wp2_with fail
    refine (HA.out _).mono ?_
    rintro e w2 ⟨rfl, hy⟩
    go_wp2
    go_ret
    exact ⟨rfl, hy⟩
  obtain ⟨u, hu⟩ : ∃ u, u = (n % 1073741824).toNat := ⟨_, rfl⟩
  have CK := Lib.hid (fun W => flow_any n v6 false W)
  rw [← hu] at CK
  obtain ⟨B, hB⟩ : ∃ B, B = fB8 u v6 false 0 zs false false (List.replicate 0 0) := ⟨_, rfl⟩
  have hbt := bt u v6 false 0 zs false false (List.replicate 0 0) (by omega)
  have hBl := fB8_lt u v6 false 0 zs false false 0 (by omega) hb
  rw [← hB] at hbt hBl
  have hm : hN false + hH v6 + (hsz (pr false) + zs.length) ≤ 300 := by
    have : hN false = 14 := rfl
    have : hH v6 ≤ 40 := by unfold hH; split <;> omega
    have : hsz (pr false) = 20 := rfl
    omega
  have hlB : B.length ≤ 300 := by rw [hbt.len]; simpa using hm
  have hn0 : 0 < B.length := by rw [hbt.len]; have := hbt.m; omega
  have CB := Lib.hid (fun W (h : Rd W (.slice a la ca) (nus .u8 zs)) => fB8_any u v6 false 0 0 a la ca zs false false W h hL hna hb (by omega) (by omega) (by omega))
  rw [← hB] at CB
  have hs : inS B d6 ≤ 65535 := by have := inS_le B d6 hbt.rr; omega
  have CD2 := Lib.hid (fun W => dip16 2 d6 W)
  have CD3 := Lib.hid (fun W => dip16 3 d6 W)
  rw [show ((2 : Int) % 200).toNat = 2 from by decide, show (8000 + ((2 : Int) % 1000).toNat) = 8002 from by decide] at CD2
  rw [show ((3 : Int) % 200).toNat = 3 from by decide, show (8000 + ((3 : Int) % 1000).toNat) = 8003 from by decide] at CD3
  have s2 : (cellsA d6 (D16 2)).size = 17 := by rw [cellsA_size, D16_len]
  have s3 : (cellsA d6 (D16 3)).size = 17 := by rw [cellsA_size, D16_len]
  have F2 := Lib.hid (fun W => dip_addr (cellsA d6 (D16 2)) 8002 s2 W)
  have F3 := Lib.hid (fun W => dip_addr (cellsA d6 (D16 3)) 8003 s3 W)
  have CO4 := Lib.hid (fun W => own_any false W)
  have CO6 := Lib.hid (fun W => own_any true W)
  have b5 := D16_lt 150 (by decide)
  have b2 := D16_lt 2 (by decide)
  have b3 := D16_lt 3 (by decide)
  have C1 := Lib.hid (fun W z (h : Rd W z (nus .u8 B)) => in_own z B (D16 2) d6 W h hBl (by omega) hbt.rr (D16_len _) b2 (D16_v _ _) hs)
  have hW := was B d6 (D16 150) (D16 2) hBl hbt.rr (D16_len _) (D16_len _) (D16_v _ _) (D16_v _ _) hs
  have h6 := was_rr hW (D16_len _) (D16_len _) hs
  have hFl := inn_lt B d6 (D16 150) (D16 2) hBl b5 b2
  have hlF : (inn B d6 (D16 150) (D16 2)).length ≤ 400 := by rw [hW.len]; have := inS_le B d6 hbt.rr; omega
  obtain ⟨F, hF⟩ : ∃ F, F = inn B d6 (D16 150) (D16 2) := ⟨_, rfl⟩
  rw [← hF] at C1 h6 hFl hlF
  have CR := Lib.hid (fun W z (h : Rd W z (nus .u8 F)) => rframe_any z F W h hFl (by omega))
  have C2 := Lib.hid (fun W z (h : Rd W z (nus .u8 F)) => in_reason z F (D16 150) (D16 150) (D16 3) false true d6 W h hFl (by omega) (D16_len _) (D16_len _) (D16_len _) (by rw [h6]; decide))
  rw [h6] at CR C2
  have YV : Hid ((vw F).size = Array.size (ZcV : Array Value)) := vw_size F
  have QV := Lib.hid (i72.trans (congrArg some (vw_size F).symm))
  have AV := Lib.hid (vw_all F)
  have HR := Lib.hid hr
  clear hr hL hna hb hB hbt hBl hm hs s2 s3 b5 b2 b3 hW h6 hFl hF hu
  unfold adr at CO4 CO6 C1 C2
  generalize cellsA d6 (D16 2) = A2 at *
  generalize cellsA d6 (D16 3) = A3 at *
  generalize cellsA false (D16 150) = A4 at *
  generalize cellsA true (D16 150) = A6 at *
  generalize flow u v6 false = kc at *
  generalize vw F = VF at *
  generalize dcells A2 8002 = dc2 at *
  generalize dcells A3 8003 = dc3 at *
  go_enter Try.func6, Try.ntmps6
  go_wp2_with fail
  refine (CK.out w).mono ?_
  rintro e V1 ⟨rfl, hy⟩
  replace K := Lib.hid (K.out.trans (hy.mono K.out.size))
  clear hy
  go_wp2_with fail
  refine (CB.out V1 (HR.out.below K.out)).mono ?_
  rintro e V2 ⟨gb, cb, rfl, ob, hy⟩
  replace K := Lib.hid (K.out.trans (hy.mono K.out.size))
  have RB := Lib.hid (Rd.own ob)
  clear ob
  clear hy
  go_wp2_with fail
  refine (CO4.out V2).mono ?_
  rintro e V3 ⟨rfl, hy⟩
  replace K := Lib.hid (K.out.trans (hy.mono K.out.size))
  replace RB := Lib.hid (RB.out.below hy)
  clear hy
  go_wp2_with fail
  refine (CO6.out V3).mono ?_
  rintro e V4 ⟨rfl, hy⟩
  replace K := Lib.hid (K.out.trans (hy.mono K.out.size))
  replace RB := Lib.hid (RB.out.below hy)
  clear hy
  go_wp2_with fail
  refine (CD2.out V4).mono ?_
  rintro e V5 ⟨rfl, hy⟩
  replace K := Lib.hid (K.out.trans (hy.mono K.out.size))
  replace RB := Lib.hid (RB.out.below hy)
  clear hy
  go_wp2_with (((with_reducible refine wpList_field_want (op := ⟨some 31, .field 33 (.tmp 30) 0, _, _, _, _⟩) ?wg1 33 (.tmp 30) 0 ?wo1 (.agg dc2) (.agg A2) ?wx1 (F2.out _) ?_); (case wg1 => rfl); (case wo1 => rfl); (case wx1 => rfl)))
  refine (C1.out V5 _ RB.out).mono ?_
  rintro e V6 ⟨x1, rfl, rx, hy⟩
  replace K := Lib.hid (K.out.trans (hy.mono K.out.size))
  replace RB := Lib.hid (RB.out.below hy)
  have RX := Lib.hid (rx)
  clear rx
  clear hy
  go_wp2_with fail
  refine (CR.out V6 _ RX.out).mono ?_
  rintro e V7 ⟨rfl, hy⟩
  replace K := Lib.hid (K.out.trans (hy.mono K.out.size))
  replace RB := Lib.hid (RB.out.below hy)
  replace RX := Lib.hid (RX.out.below hy)
  clear hy
  go_wp2_with (((with_reducible refine wpList_blk_store (op := ⟨none, .store 50 (.tmp 12) (.tmp 38), _, _, _, _⟩) ?sg2 50 (.tmp 12) (.tmp 38) ?so2 (V7.heap.size) VF ?sx2 ?sy2 (Blk.new V7 50 ZcV) YV.out QV.out AV.out ?_); (case sg2 => rfl); (case so2 => rfl); (case sx2 => rfl); (case sy2 => rfl)))
  intro V8 hA hF hB
  have hy := ((Below.refl V7.heap.size V7).alloc (Nat.le_refl _) (.cells ZcV 50)).trans (hB _ (Nat.le_refl _))
  replace K := Lib.hid (K.out.trans (hy.mono K.out.size))
  replace RB := Lib.hid (RB.out.below hy)
  replace RX := Lib.hid (RX.out.below hy)
  have NV := Lib.hid hA
  clear hA hF hB hy
  go_wp2_with fail
  refine (CO4.out V8).mono ?_
  rintro e V9 ⟨rfl, hy⟩
  replace K := Lib.hid (K.out.trans (hy.mono K.out.size))
  replace RB := Lib.hid (RB.out.below hy)
  replace RX := Lib.hid (RX.out.below hy)
  replace NV := Lib.hid (NV.out.below hy NV.out.lt)
  clear hy
  go_wp2_with fail
  refine (CO6.out V9).mono ?_
  rintro e V10 ⟨rfl, hy⟩
  replace K := Lib.hid (K.out.trans (hy.mono K.out.size))
  replace RB := Lib.hid (RB.out.below hy)
  replace RX := Lib.hid (RX.out.below hy)
  replace NV := Lib.hid (NV.out.below hy NV.out.lt)
  clear hy
  go_wp2_with fail
  refine (CD3.out V10).mono ?_
  rintro e V11 ⟨rfl, hy⟩
  replace K := Lib.hid (K.out.trans (hy.mono K.out.size))
  replace RB := Lib.hid (RB.out.below hy)
  replace RX := Lib.hid (RX.out.below hy)
  replace NV := Lib.hid (NV.out.below hy NV.out.lt)
  clear hy
  go_wp2_with (((with_reducible refine wpList_field_want (op := ⟨some 46, .field 33 (.tmp 45) 0, _, _, _, _⟩) ?wg3 33 (.tmp 45) 0 ?wo3 (.agg dc3) (.agg A3) ?wx3 (F3.out _) ?_); (case wg3 => rfl); (case wo3 => rfl); (case wx3 => rfl)))
  refine (C2.out V11 _ RX.out).mono ?_
  rintro e V12 ⟨rfl, hy⟩
  replace K := Lib.hid (K.out.trans (hy.mono K.out.size))
  replace RB := Lib.hid (RB.out.below hy)
  replace RX := Lib.hid (RX.out.below hy)
  replace NV := Lib.hid (NV.out.below hy NV.out.lt)
  clear hy
  go_wp2_with fail
  refine (HA.out V12).mono ?_
  rintro e V13 ⟨rfl, hy⟩
  replace K := Lib.hid (K.out.trans (hy.mono K.out.size))
  replace RB := Lib.hid (RB.out.below hy)
  replace RX := Lib.hid (RX.out.below hy)
  replace NV := Lib.hid (NV.out.below hy NV.out.lt)
  clear hy
  go_wp2
  go_ret
  exact ⟨rfl, K.out⟩
end Go.Proofs.Ytnpibdjfafpegaa
