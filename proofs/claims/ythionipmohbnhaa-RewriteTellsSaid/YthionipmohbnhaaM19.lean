/- Texts that the walks of this seat lean on, put together. -/
import Derived.Laws.BytesArg
import Derived.Lib.SlBytesConst
import Derived.Test.YthionipmohbnhaaTk
import Derived.Test.YthionipmohbnhaaM01
import Derived.Test.YthionipmohbnhaaM04
import Derived.Test.YthionipmohbnhaaM06
import Derived.Test.YthionipmohbnhaaM07
import Derived.Test.YthionipmohbnhaaM08
import Derived.Test.YthionipmohbnhaaM09
import Derived.Test.YthionipmohbnhaaM12
import Derived.Test.YthionipmohbnhaaM14
import Derived.Test.YthionipmohbnhaaM16
import Derived.Test.YthionipmohbnhaaM17
import Derived.Test.YthionipmohbnhaaM18
namespace Go.Proofs.Ythionipmohbnhaa
open Go.RowKit
theorem build_any (p : Nat) (hp : p = 6 ∨ p = 17) (v : Bool) (sb db : List Nat) (sp dp f pad : Nat) (a : Option Addr) (la ca : Nat) (zs : List Nat) (tag bare : Bool) (w : World) (hr : Rd w (.slice a la ca) (nus .u8 zs)) (hL : zs.length = la) (hna : a = none → ca = 0) (hb : ∀ c ∈ zs, c < 256) (hz : la ≤ 2000)
    (hl1 : sb.length = 16) (hl2 : db.length = 16) (hb1 : ∀ c ∈ sb, c < 256) (hb2 : ∀ c ∈ db, c < 256) (hv1 : vldA v sb = true) (hv2 : vldA v db = true) (hsp : sp < 65536) (hdp : dp < 65536) (hf : f < 256) (hpad : pad ≤ 100) :
    Calls Try.prog 14 #[.agg (kcells p (cellsA v sb) (cellsA v db) sp dp), .int .u8 (f : Int), .slice a la ca, .bool tag, .bool bare, .int .i64 (pad : Int)] w fun e w' => ∃ x n, e = .returned x ∧ w'.ownsRow w.heap.size 5 1 x n (nus .u8 (frmB v sb db p sp dp f zs tag bare pad)) ∧ Below w.heap.size w w' := by
  rcases hp with rfl | rfl
  · cases v
    · exact build_t4 sb db sp dp f pad a la ca zs tag bare w hr hL hna hb hz hl1 hl2 hb1 hb2 hv1 hv2 hsp hdp hf hpad
    · exact build_t6 sb db sp dp f pad a la ca zs tag bare w hr hL hna hb hz hl1 hl2 hb1 hb2 hv1 hv2 hsp hdp hf hpad
  · cases v <;> cases bare
    · exact build_u4 sb db sp dp f pad a la ca zs tag w hr hL hna hb hz hl1 hl2 hb1 hb2 hv1 hv2 hsp hdp hf hpad
    · exact build_b4 sb db sp dp f pad a la ca zs tag w hr hL hna hb hz hl1 hl2 hb1 hb2 hv1 hv2 hsp hdp hf hpad
    · exact build_u6 sb db sp dp f pad a la ca zs tag w hr hL hna hb hz hl1 hl2 hb1 hb2 hv1 hv2 hsp hdp hf hpad
    · exact build_b6 sb db sp dp f pad a la ca zs tag w hr hL hna hb hz hl1 hl2 hb1 hb2 hv1 hv2 hsp hdp hf hpad
end Go.Proofs.Ythionipmohbnhaa
namespace Go.Proofs.Ythionipmohbnhaa
open Go.RowKit
def sV (u : Nat) : List Nat := kS u ++ List.replicate 12 0
def dV : List Nat := kD ++ List.replicate 12 0
theorem sV_len (u : Nat) : (sV u).length = 16 := rfl
theorem dV_len : dV.length = 16 := rfl
theorem sV_lt (u : Nat) : ∀ c ∈ sV u, c < 256 := by
  intro c hc
  rcases List.mem_append.1 hc with h | h
  · simp [kS] at h; omega
  · rw [List.eq_of_mem_replicate h]; omega
theorem dV_lt : ∀ c ∈ dV, c < 256 := by decide
theorem sV_v (v : Bool) (u : Nat) : vldA v (sV u) = true := by
  unfold vldA sV kS
  simp only [Bool.or_eq_true]
  right
  rfl
theorem dV_v (v : Bool) : vldA v dV = true := by cases v <;> rfl
def pr (udp : Bool) : Nat := if udp then 17 else 6
theorem pr_or (udp : Bool) : pr udp = 6 ∨ pr udp = 17 := by cases udp; exact .inl rfl; exact .inr rfl
def flow (u : Nat) (v udp : Bool) : Array Value := kcells (pr udp) (cellsA v (sV u)) (cellsA v dV) (1000 + u % 50000) 80
theorem flow_size (u : Nat) (v udp : Bool) : (flow u v udp).size = 37 := kcells_size _ _ _ _ _ (by rw [cellsA_size, sV_len]) (by rw [cellsA_size, dV_len])
theorem flow_all (u : Nat) (v udp : Bool) : (flow u v udp).all (·.oneCell') = true := kcells_all _ _ _ _ _ (cellsA_all _ _) (cellsA_all _ _)
theorem flow_any (n : Int) (v udp : Bool) (w : World) : Calls Try.prog 12 #[.int .i64 n, .bool v, .bool udp] w fun e w' => e = .returned (.agg (flow (n % 1073741824).toNat v udp)) ∧ Below w.heap.size w w' := key_any n v udp w
def fB8 (u : Nat) (v udp : Bool) (f : Nat) (data : List Nat) (tag bare : Bool) (R : List Nat) : List Nat := frR v (sV u) dV (pr udp) (1000 + u % 50000) 80 f data tag bare R
theorem fB8_told (u : Nat) (v udp : Bool) (f : Nat) (data : List Nat) (tag bare : Bool) (R : List Nat) (hl : data.length ≤ 1500) : Told8 v (sV u) dV (pr udp) (1000 + u % 50000) 80 f data tag bare R (fB8 u v udp f data tag bare R) :=
  told8 _ _ _ _ _ _ _ _ _ _ _ (pr_or udp) (sV_len u) dV_len (sV_v v u) (dV_v v) hl (by omega) (by omega)
theorem fB8_any (u : Nat) (v udp : Bool) (f : Nat) (pad : Nat) (a : Option Addr) (la ca : Nat) (zs : List Nat) (tag bare : Bool) (w : World) (hr : Rd w (.slice a la ca) (nus .u8 zs)) (hL : zs.length = la) (hna : a = none → ca = 0) (hb : ∀ c ∈ zs, c < 256) (hz : la ≤ 1500) (hf : f < 256) (hpad : pad ≤ 100) :
    Calls Try.prog 14 #[.agg (flow u v udp), .int .u8 (f : Int), .slice a la ca, .bool tag, .bool bare, .int .i64 (pad : Int)] w fun e w' => ∃ g c, e = .returned (.slice (some ⟨g, 0, none⟩) (fB8 u v udp f zs tag bare (List.replicate pad 0)).length c) ∧
      w'.ownsRow w.heap.size 5 1 (.slice (some ⟨g, 0, none⟩) (fB8 u v udp f zs tag bare (List.replicate pad 0)).length c) (fB8 u v udp f zs tag bare (List.replicate pad 0)).length (nus .u8 (fB8 u v udp f zs tag bare (List.replicate pad 0))) ∧ Below w.heap.size w w' := by
  refine (build_any (pr udp) (pr_or udp) v (sV u) dV (1000 + u % 50000) 80 f pad a la ca zs tag bare w hr hL hna hb (by omega) (sV_len u) dV_len (sV_lt u) dV_lt (sV_v v u) (dV_v v) (by omega) (by omega) hf hpad).mono ?_
  rintro e w' ⟨x, n, rfl, ho, hB⟩
  have e0 : frmB v (sV u) dV (pr udp) (1000 + u % 50000) 80 f zs tag bare pad = fB8 u v udp f zs tag bare (List.replicate pad 0) := frmB_R _ _ _ _ _ _ _ _ _ _ _
  rw [e0] at ho
  have hlen : (fB8 u v udp f zs tag bare (List.replicate pad 0)).length = n := by have := ho.1; rw [nus_length] at this; omega
  have ht := (fB8_told u v udp f zs tag bare (List.replicate pad 0) (by omega)).len
  subst hlen
  obtain ⟨g, c, rfl, -, -, -, -⟩ := own_at ho (by rw [ht]; unfold hN; split <;> omega)
  exact ⟨g, c, rfl, ho, hB⟩
end Go.Proofs.Ythionipmohbnhaa
namespace Go.Proofs.Ythionipmohbnhaa
open Go.RowKit
def B9 : List Nat := fB8 5 false false 0 [97, 98] false false [0, 0]
def D9 (m : Nat) : List Nat := dB m ++ List.replicate 12 0
def O9 : List Nat := to9 B9 (D9 1) 8001
theorem B9_len : B9.length = 58 := by kernel_rfl
theorem B9_lt : ∀ c ∈ B9, c < 256 := by decide +kernel
theorem O9_len : O9.length = 58 := by kernel_rfl
theorem O9_lt : ∀ c ∈ O9, c < 256 := by decide +kernel
theorem O9_rr : rr O9 = 0 := by kernel_rfl
theorem O9_gf : gf O9 = true := by kernel_rfl
theorem O9_vw : vw O9 = vcells false 14 34 56 (kcells 6 (cellsA false (sV 5)) (cellsA false (D9 1)) 1005 8001) 0 := by kernel_rfl
theorem B9_ok : ok9 B9 false (D9 1) = true := by kernel_rfl
theorem B9_six : ok9 B9 true (D9 1) = false := by kernel_rfl
theorem B9_cut : ok9 (B9.take 30) false (D9 1) = false := by kernel_rfl
theorem B9_ok2 : ok9 B9 false dV = true := by kernel_rfl
theorem B9_back : to9 B9 dV 0 = B9 := by kernel_rfl
end Go.Proofs.Ythionipmohbnhaa
namespace Go.Proofs.Ythionipmohbnhaa
open Go.RowKit
def str (zs : List Nat) : ByteArray := ⟨(zs.map UInt8.ofNat).toArray⟩
theorem strOfNums_nat (zs : List Nat) : strOfNums (zs.map fun n : Nat => (n : Int)) = str zs := by
  unfold strOfNums str
  rw [List.map_map]
  rfl
theorem conv_rd {P : Program} (w : World) (src dst e : TypeId) (hs : P.underlying src = some (.slice e)) (he : P.underlying e = some (.int .u8)) (hd : P.underlying dst = some .string) (v : Value) (zs : List Nat) (h : Rd w v (nus .u8 zs)) :
    (convert src dst v).run P w = .ok (.string (str zs)) w := by
  obtain ⟨a, cap, rfl, _, _, hx⟩ := h
  rw [nus_length] at hx ⊢
  rw [← strOfNums_nat]
  rcases hx with hx | ⟨b, off, rfl, _, hc⟩
  · obtain rfl := (nus_nil _ _).1 hx
    cases a with
    | none => exact run_convert_bytes_nil w src e hs he _ _ dst hd
    | some ad =>
      rw [run_convert_bytes_string w src dst e _ _ _ hs he hd, List.length_nil, run_bytesToString w ad 0 cap [] (by simp [loadCells, go_sem])]
      rfl
  · exact run_convert_bytes_arg w src e hs he b off zs.length cap (zs.map fun n : Nat => (n : Int)) (by simp) (fun i hi => by
      rw [hc i hi, nus_get _ _ _ hi]
      simp [List.getD_eq_getElem?_getD, List.getElem?_eq_getElem hi]) dst hd
end Go.Proofs.Ythionipmohbnhaa
namespace Go.Proofs.Ythionipmohbnhaa
open Go.RowKit
theorem dif9 : difs [1, 2, 3] [1, 5] = [1, 2] := by kernel_rfl
theorem built_dip (D : Array Value) (hD : D.size = 17) : Try.prog.built 28 [(0, .agg D)] = some (dcells D 0) := by
  obtain ⟨y0, y1, y2, y3, y4, y5, y6, y7, y8, y9, y10, y11, y12, y13, y14, y15, y16, rfl⟩ := arr17 D hD
  kernel_rfl
theorem dip_all (D : List Nat) (v : Bool) (p : Nat) : (dcells (cellsA v D) p).all (·.oneCell') = true := dcells_all _ _ (cellsA_all _ _)
set_option maxRecDepth 100000 in
set_option maxHeartbeats 4000000 in
theorem awake_any (w : World) : Calls Try.prog 7 #[] w fun e w' => e = .returned (.bool true) ∧ Below w.heap.size w w' := by
  have CK := Lib.hid (fun W => flow_any 5 false false W)
  rw [show ((5 : Int) % 1073741824).toNat = 5 from by decide] at CK
  have CB := Lib.hid (show ∀ W z, Rd W (.slice (some z) 2 2) (nus .u8 [97, 98]) → Calls Try.prog 14 #[.agg (flow 5 false false), .int .u8 0, .slice (some z) 2 2, .bool false, .bool false, .int .i64 2] W fun e w' => ∃ g c, e = .returned (.slice (some ⟨g, 0, none⟩) 58 c) ∧ Rd w' (.slice (some ⟨g, 0, none⟩) 58 c) (nus .u8 B9) ∧ Below W.heap.size W w' from fun W z h => by
    refine (fB8_any 5 false false 0 2 (some z) 2 2 [97, 98] false false W h rfl (by intro e; cases e) (by decide) (by omega) (by omega) (by omega)).mono ?_
    rintro e w' ⟨g, c, rfl, ho, hB⟩
    rw [show fB8 5 false false 0 [97, 98] false false (List.replicate 2 0) = B9 from rfl, B9_len] at ho
    exact ⟨g, c, by rw [show fB8 5 false false 0 [97, 98] false false (List.replicate 2 0) = B9 from rfl, B9_len], Rd.own ho, hB⟩)
  have CD := Lib.hid (fun W => dip_any 1 false W)
  rw [show dcells (cellsA false (dB ((1 : Int) % 200).toNat ++ List.replicate 12 0)) (8000 + ((1 : Int) % 1000).toNat) = dcells (cellsA false (D9 1)) 8001 from by rfl] at CD
  have CX := Lib.hid (fun W => dip_any 1 true W)
  rw [show dcells (cellsA true (dB ((1 : Int) % 200).toNat ++ List.replicate 12 0)) (8000 + ((1 : Int) % 1000).toNat) = dcells (cellsA true (D9 1)) 8001 from by rfl] at CX
  have dl : (D9 1).length = 16 := rfl
  have db : ∀ c ∈ D9 1, c < 256 := by decide
  have C1 := Lib.hid (fun W z (h : Rd W z (nus .u8 B9)) => to_any z B9 false (D9 1) 8001 W h B9_lt (by rw [B9_len]; omega) dl db (by omega))
  have C2 := Lib.hid (fun W z (h : Rd W z (nus .u8 B9)) => to_any z B9 true (D9 1) 8001 W h B9_lt (by rw [B9_len]; omega) dl db (by omega))
  have C3 := Lib.hid (fun W z (h : Rd W z (nus .u8 (B9.take 30))) => to_any z (B9.take 30) false (D9 1) 8001 W h (fun c hc => B9_lt c (List.mem_of_mem_take hc)) (by rw [List.length_take, B9_len]; omega) dl db (by omega))
  have C4 := Lib.hid (fun W z (h : Rd W z (nus .u8 B9)) => to_any z B9 false dV 0 W h B9_lt (by rw [B9_len]; omega) dV_len dV_lt (by omega))
  unfold tof at C1 C2 C3 C4
  rw [if_pos B9_ok, B9_ok, show to9 B9 (D9 1) 8001 = O9 from rfl] at C1
  rw [if_neg (by rw [B9_six]; decide), B9_six] at C2
  rw [if_neg (by rw [B9_cut]; decide), B9_cut] at C3
  rw [if_pos B9_ok2, B9_ok2, B9_back] at C4
  have CR := Lib.hid (fun W z (h : Rd W z (nus .u8 O9)) => rframe_any z O9 W h O9_lt (by rw [O9_len]; omega))
  rw [O9_rr] at CR
  have CG := Lib.hid (fun W z (h : Rd W z (nus .u8 O9)) => rfgood_any z O9 W h O9_lt (by rw [O9_len]; omega))
  rw [O9_gf] at CG
  have CF := Lib.hid (fun W x y (h1 : Rd W x (nus .u8 [1, 2, 3])) (h2 : Rd W y (nus .u8 [1, 5])) => differs_any x y [1, 2, 3] [1, 5] W h1 h2 (by decide) (by decide))
  rw [dif9] at CF
  have CI := Lib.hid (fun W x y (h1 : Rd W x (nus .i64 [1, 2])) (h2 : Rd W y (nus .i64 [1, 2])) => ints_any x y [1, 2] W h1 h2 (by decide))
  have QA := fun W => (eq_same false 172 16 0 2 0 0 0 0 0 0 0 0 0 0 0 0 (by decide) W)
  have QA := fun W => (show (Op.equalIn 10000 25 (.agg (cellsA false (D9 1))) (.agg (cellsA false (D9 1)))).run Try.prog W = .ok true W from QA W)
  have sA : (cellsA false (D9 1)).size = 17 := rfl
  have sV5 : (cellsA false dV).size = 17 := rfl
  have BD := Lib.hid (built_dip (cellsA false dV) sV5)
  have sd := dcells_size (cellsA false (D9 1)) 8001 sA
  have Ad := Lib.hid (dip_all (D9 1) false 8001)
  have sd2 := dcells_size (cellsA true (D9 1)) 8001 rfl
  have Ad2 := Lib.hid (dip_all (D9 1) true 8001)
  obtain ⟨d17, dpart⟩ := dip_get (cellsA false (D9 1)) 8001 sA
  have zk := flow_size 5 false false
  have Ak := Lib.hid (flow_all 5 false false)
  have PK := Lib.hid (show ((flow 5 false false).toList.drop 18).take (cellsA false dV).toList.length = (cellsA false dV).toList from rfl)
  have hvw := O9_vw
  have zv := vw_size O9
  have Av := Lib.hid (vw_all O9)
  have PV := Lib.hid (show ((vw O9).toList.drop 22).take (cellsA false (D9 1)).toList.length = (cellsA false (D9 1)).toList from by rw [hvw]; rfl)
  have v40 := Lib.hid (show (vw O9)[40]? = some (.int .u16 8001) from by rw [hvw]; rfl)
  have LB := Lib.hid B9_len
  generalize flow 5 false false = kc at *
  generalize vw O9 = VA at *
  clear hvw
  have Zk := Lib.hid (i42.trans (congrArg some zk.symm))
  have Yk : Hid (kc.size = Array.size (ZcK : Array Value)) := zk
  have IV := Lib.hid (i24.trans (congrArg some (show (17 : Nat) = (cellsA false dV).toList.length from rfl)))
  have IA := Lib.hid (i24.trans (congrArg some (show (17 : Nat) = (cellsA false (D9 1)).toList.length from rfl)))
  have Zv := Lib.hid (i72.trans (congrArg some zv.symm))
  have Yv : Hid (VA.size = Array.size (ZcV : Array Value)) := zv
  have Zd := Lib.hid (i45.trans (congrArg some sd.symm))
  have Yd : Hid ((dcells (cellsA false (D9 1)) 8001).size = Array.size (ZcD : Array Value)) := sd
  have d17 := Lib.hid d17
  have PD := Lib.hid dpart
  have t1 : ((8001 : Int) == 8001) = true := rfl
  have kcv := fun (w : World) (C : Array Value) (n c : Nat) => Lib.run_convert_bytes_const (P := Try.prog) w 22 5 C n c Try.underlying22 Try.underlying5
  have K := Lib.hid (Below.refl w.heap.size w)
  clear zk zv sd sd2 dl db dpart sA sV5
  generalize dcells (cellsA false (D9 1)) 8001 = dc at *
  generalize dcells (cellsA true (D9 1)) 8001 = dx at *
  generalize dcells (cellsA false dV) 0 = ds at *
  generalize cellsA false (D9 1) = DA at *
  generalize cellsA false dV = DV at *
  go_enter Try.func7, Try.ntmps7
  go_wp2_with fail
  refine (CK.out _).mono ?_
  rintro e V1 ⟨rfl, hy⟩
  replace K := Lib.hid (K.out.trans (hy.mono K.out.size))
  clear hy
  go_wp2_with (((with_reducible refine wpList_blk_store (op := ⟨none, .store 37 (.tmp 1) (.tmp 14), _, _, _, _⟩) ?sg1 37 (.tmp 1) (.tmp 14) ?so1 (V1.heap.size) kc ?sx1 ?sy1 (Blk.new V1 37 ZcK) Yk.out Zk.out Ak.out ?_); (case sg1 => rfl); (case so1 => rfl); (case sx1 => rfl); (case sy1 => rfl)))
  intro V2 hA hF hB
  have hy := ((Below.refl V1.heap.size V1).alloc (Nat.le_refl _) (.cells ZcK 37)).trans (hB _ (Nat.le_refl _))
  replace K := Lib.hid (K.out.trans (hy.mono K.out.size))
  have NK := Lib.hid hA
  clear hA hF hB hy
  have hal := (Below.refl V2.heap.size V2).alloc (Nat.le_refl _) (.cells #[Value.int .u8 97, .int .u8 98] 5 (2, 2 + 1))
  have RL := Lib.hid (show Rd (V2.alloc (.cells #[Value.int .u8 97, .int .u8 98] 5 (2, 2 + 1))) (.slice (some ⟨V2.heap.size, 0, none⟩) 2 2) (nus .u8 [97, 98]) from rd_lit V2 .u8 5 [97, 98] 2 (2, 3) rfl (by simp [maxLen]))
  have L2 : (loadVar 37 ⟨V1.heap.size, 0, none⟩).run Try.prog V2 = .ok (.agg kc) V2 := run_blk_load (P := Try.prog) 37 (V1.heap.size) _ NK.out Try.underlying37 rfl Zk.out
  replace L2 := Lib.hid L2
  go_wp2_with (((with_reducible refine wpList_load_want (op := ⟨some 15, .load 37 (.tmp 1), _, _, _, _⟩) ?wg2 37 (.tmp 1) ?wo2 ⟨V1.heap.size, 0, none⟩ ?wx2 (.agg kc) L2.out ?_); (case wg2 => rfl); (case wo2 => rfl); (case wx2 => rfl)))
  clear L2
  replace K := Lib.hid (K.out.trans (hal.mono K.out.size))
  replace NK := Lib.hid (NK.out.below hal NK.out.lt)
  clear hal kcv
  refine (CB.out _ _ RL.out).mono ?_
  rintro e V3 ⟨gb, cb, rfl, rb, hy⟩
  replace K := Lib.hid (K.out.trans (hy.mono K.out.size))
  replace NK := Lib.hid (NK.out.below hy NK.out.lt)
  have R0 := Lib.hid rb
  have RC := Lib.hid (rb.front 30 (by rw [LB.out]; omega))
  have h30 : (30 : Int) ≤ (cb : Int) := by
    obtain ⟨_, _, e1, h1, -, -⟩ := rb
    simp only [Value.slice.injEq] at e1
    obtain ⟨-, e2, rfl⟩ := e1
    rw [nus_length, LB.out] at h1
    omega
  clear rb hy RL CB CK
  go_wp2_with fail
  refine (CD.out _).mono ?_
  rintro e V4 ⟨rfl, hy⟩
  replace K := Lib.hid (K.out.trans (hy.mono K.out.size))
  replace NK := Lib.hid (NK.out.below hy NK.out.lt)
  replace R0 := Lib.hid (R0.out.below hy)
  replace RC := Lib.hid (RC.out.below hy)
  clear hy
  go_wp2_with (((with_reducible refine wpList_blk_store (op := ⟨none, .store 28 (.tmp 3) (.tmp 19), _, _, _, _⟩) ?sg3 28 (.tmp 3) (.tmp 19) ?so3 (V4.heap.size) dc ?sx3 ?sy3 (Blk.new V4 28 ZcD) Yd.out Zd.out Ad.out ?_); (case sg3 => rfl); (case so3 => rfl); (case sx3 => rfl); (case sy3 => rfl)))
  have qNKND : V1.heap.size < V4.heap.size := NK.out.lt
  intro V5 hA hF hB
  have hy := ((Below.refl V4.heap.size V4).alloc (Nat.le_refl _) (.cells ZcD 28)).trans (hB _ (Nat.le_refl _))
  replace K := Lib.hid (K.out.trans (hy.mono K.out.size))
  replace NK := Lib.hid (NK.out.below hy NK.out.lt)
  replace R0 := Lib.hid (R0.out.below hy)
  replace RC := Lib.hid (RC.out.below hy)
  have ND := Lib.hid hA
  clear hA hF hB hy
  have L4 : (loadVar 28 ⟨V4.heap.size, 0, none⟩).run Try.prog V5 = .ok (.agg dc) V5 := run_blk_load (P := Try.prog) 28 (V4.heap.size) _ ND.out Try.underlying28 rfl Zd.out
  replace L4 := Lib.hid L4
  go_wp2_with (((with_reducible refine wpList_load_want (op := ⟨some 22, .load 28 (.tmp 3), _, _, _, _⟩) ?wg4 28 (.tmp 3) ?wo4 ⟨V4.heap.size, 0, none⟩ ?wx4 (.agg dc) L4.out ?_); (case wg4 => rfl); (case wo4 => rfl); (case wx4 => rfl)))
  clear L4
  refine (C1.out _ _ R0.out).mono ?_
  rintro e V6 ⟨x1, rfl, ro, hy⟩
  replace K := Lib.hid (K.out.trans (hy.mono K.out.size))
  replace NK := Lib.hid (NK.out.below hy NK.out.lt)
  replace R0 := Lib.hid (R0.out.below hy)
  replace RC := Lib.hid (RC.out.below hy)
  replace ND := Lib.hid (ND.out.below hy ND.out.lt)
  have RO := Lib.hid (ro)
  clear ro
  clear hy
  go_wp2_with fail
  refine (CR.out _ _ RO.out).mono ?_
  rintro e V7 ⟨rfl, hy⟩
  replace K := Lib.hid (K.out.trans (hy.mono K.out.size))
  replace NK := Lib.hid (NK.out.below hy NK.out.lt)
  replace R0 := Lib.hid (R0.out.below hy)
  replace RC := Lib.hid (RC.out.below hy)
  replace ND := Lib.hid (ND.out.below hy ND.out.lt)
  replace RO := Lib.hid (RO.out.below hy)
  clear hy
  go_wp2_with (((with_reducible refine wpList_blk_store (op := ⟨none, .store 42 (.tmp 6) (.tmp 29), _, _, _, _⟩) ?sg5 42 (.tmp 6) (.tmp 29) ?so5 (V7.heap.size) VA ?sx5 ?sy5 (Blk.new V7 42 ZcV) Yv.out Zv.out Av.out ?_); (case sg5 => rfl); (case so5 => rfl); (case sx5 => rfl); (case sy5 => rfl)))
  have qNKNV : V1.heap.size < V7.heap.size := NK.out.lt
  have qNDNV : V4.heap.size < V7.heap.size := ND.out.lt
  intro V8 hA hF hB
  have hy := ((Below.refl V7.heap.size V7).alloc (Nat.le_refl _) (.cells ZcV 42)).trans (hB _ (Nat.le_refl _))
  replace K := Lib.hid (K.out.trans (hy.mono K.out.size))
  replace NK := Lib.hid (NK.out.below hy NK.out.lt)
  replace R0 := Lib.hid (R0.out.below hy)
  replace RC := Lib.hid (RC.out.below hy)
  replace ND := Lib.hid (ND.out.below hy ND.out.lt)
  replace RO := Lib.hid (RO.out.below hy)
  have NV := Lib.hid hA
  clear hA hF hB hy
  go_wp2_with fail
  refine (CX.out _).mono ?_
  rintro e V9 ⟨rfl, hy⟩
  replace K := Lib.hid (K.out.trans (hy.mono K.out.size))
  replace NK := Lib.hid (NK.out.below hy NK.out.lt)
  replace R0 := Lib.hid (R0.out.below hy)
  replace RC := Lib.hid (RC.out.below hy)
  replace ND := Lib.hid (ND.out.below hy ND.out.lt)
  replace RO := Lib.hid (RO.out.below hy)
  replace NV := Lib.hid (NV.out.below hy NV.out.lt)
  clear hy
  go_wp2_with fail
  refine (C2.out _ _ R0.out).mono ?_
  rintro e V10 ⟨x2, rfl, -, hy⟩
  replace K := Lib.hid (K.out.trans (hy.mono K.out.size))
  replace NK := Lib.hid (NK.out.below hy NK.out.lt)
  replace R0 := Lib.hid (R0.out.below hy)
  replace RC := Lib.hid (RC.out.below hy)
  replace ND := Lib.hid (ND.out.below hy ND.out.lt)
  replace RO := Lib.hid (RO.out.below hy)
  replace NV := Lib.hid (NV.out.below hy NV.out.lt)
  clear hy
  go_wp2_with fail
  refine wp_region_held (S := (fun w' : World => Below (V10.heap.size) V10 w')) (by kernel_rfl) ?_
  change wpAnyH _ _ _ _ _ _ _ _ V10.drew
  have hy : Below V10.heap.size V10 V10.drew := (Below.refl _ _).drew
  have hE0 : Below (V10.heap.size) V10 V10.drew := (Below.refl _ _).drew
  clear hy
  generalize V10.drew = Y7x0 at hE0  ⊢
  have E0 := Lib.hid hE0
  clear hE0
  refine tkA 0 (?_) ?_ E0.out ?_
  rotate_left
  · (intro w1 hS; go_simp; try with_reducible rfl)
  simp only [Act.put, tS1, tS2, tS3]
  refine tkA 1 (?_) ?_ E0.out ?_
  rotate_left
  · (intro w1 hS; have hW := hS; have q := h30; clear hW hS; go_simp; try with_reducible rfl)
  simp only [Act.put, tS1, tS2, tS3]
  refine tkA 2 (.agg dc) ?_ E0.out ?_
  · (intro w1 hS; have hW := hS; exact exec_load 28 (.tmp 3) rfl _ rfl _ (run_blk_load (P := Try.prog) 28 (V4.heap.size) _ (ND.out.below hW ND.out.lt) Try.underlying28 rfl Zd.out))
  simp only [Act.put, tS1, tS2, tS3]
  refine tkO 3 (fun KK hK => ?_)
  go_simp
  refine (C3.out _ _ (RC.out.below E0.out)).mono ?_
  rintro e Y7x1 ⟨x3, rfl, -, hy⟩
  have E1 := Lib.hid (E0.out.trans (hy.mono E0.out.size))
  have C1 := Lib.hid E1.out
  clear hy E0
  refine hK.out _ _ C1.out (fun _ => ?_)
  clear hK KK
  refine wpAnyH_mono (S' := (fun w' : World => Below Y7x1.heap.size Y7x1 w')) (fun w1 h => C1.out.trans (h.mono C1.out.size)) _ _ _ _ ?_
  clear C1
  try simp only [Act.put, tS1, tS2, tS3]
  refine tkA 4 (?_) ?_ (Below.refl _ _) ?_
  rotate_left
  · (intro w1 hS; go_simp; try with_reducible rfl)
  simp only [Act.put, tS1, tS2, tS3]
  refine tkA 5 (?_) ?_ (Below.refl _ _) ?_
  rotate_left
  · (intro w1 hS; go_simp; try with_reducible rfl)
  simp only [Act.put, tS1, tS2, tS3]
  refine tkA 7 (?_) ?_ (Below.refl _ _) ?_
  rotate_left
  · (intro w1 hS; go_simp; try with_reducible rfl)
  simp only [Act.put, tS1, tS2, tS3]
  refine tkA 6 (?_) ?_ (Below.refl _ _) ?_
  rotate_left
  · (intro w1 hS; go_simp; try with_reducible rfl)
  simp only [Act.put, tS1, tS2, tS3]
  refine tkA 8 (?_) ?_ (Below.refl _ _) ?_
  rotate_left
  · (intro w1 hS; go_simp; try with_reducible rfl)
  simp only [Act.put, tS1, tS2, tS3]
  refine wpAnyH_done (by kernel_rfl) ?_ _
  have hy := E1.out
  replace K := Lib.hid (K.out.trans (hy.mono K.out.size))
  replace NK := Lib.hid (NK.out.below hy NK.out.lt)
  replace R0 := Lib.hid (R0.out.below hy)
  replace RC := Lib.hid (RC.out.below hy)
  replace ND := Lib.hid (ND.out.below hy ND.out.lt)
  replace RO := Lib.hid (RO.out.below hy)
  replace NV := Lib.hid (NV.out.below hy NV.out.lt)
  clear hy E1
  clear C1 C2 C3 CR CX CD RC h30
  have L6 : (loadVar 25 ⟨V1.heap.size, 18, none⟩).run Try.prog Y7x1 = .ok (.agg DV) Y7x1 := by have h := run_part_load (P := Try.prog) 25 18 DV.toList _ NK.out PK.out Try.underlying25 rfl IV.out; rwa [Array.toArray_toList] at h
  replace L6 := Lib.hid L6
  go_wp2_with (first | ((with_reducible refine wpList_load_want (op := ⟨some 47, .load 25 (.tmp 46), _, _, _, _⟩) ?wg6 25 (.tmp 46) ?wo6 ⟨V1.heap.size, 18, none⟩ ?wx6 (.agg DV) L6.out ?_); (case wg6 => rfl); (case wo6 => rfl); (case wx6 => rfl)) | ((with_reducible refine wpList_built2 (op := ⟨some 48, .build 28 #[(0, Operand.tmp 47)], _, _, _, _⟩) ?wg48 28 #[(0, Operand.tmp 47)] ?wo48 #[(0, .agg DV)] ?wv48 ds ?wf48 ?_); (case wg48 => rfl); (case wo48 => rfl); (case wv48 => kernel_rfl); (case wf48 => exact BD.out)))
  clear L6
  refine (C4.out _ _ R0.out).mono ?_
  rintro e V11 ⟨x4, rfl, rs, hy⟩
  replace K := Lib.hid (K.out.trans (hy.mono K.out.size))
  replace NK := Lib.hid (NK.out.below hy NK.out.lt)
  replace R0 := Lib.hid (R0.out.below hy)
  replace ND := Lib.hid (ND.out.below hy ND.out.lt)
  replace RO := Lib.hid (RO.out.below hy)
  replace NV := Lib.hid (NV.out.below hy NV.out.lt)
  have RS := Lib.hid (rs)
  clear rs
  clear hy
  clear C4
  have L7 : (loadVar 25 ⟨V7.heap.size, 22, none⟩).run Try.prog V11 = .ok (.agg DA) V11 := by have h := run_part_load (P := Try.prog) 25 22 DA.toList _ NV.out PV.out Try.underlying25 rfl IA.out; rwa [Array.toArray_toList] at h
  replace L7 := Lib.hid L7
  have L8 : (loadVar 25 ⟨V4.heap.size, 0, none⟩).run Try.prog V11 = .ok (.agg DA) V11 := by have h := run_part_load (P := Try.prog) 25 0 DA.toList _ ND.out PD.out Try.underlying25 rfl IA.out; rwa [Array.toArray_toList] at h
  replace L8 := Lib.hid L8
  have L9 := (NV.out.cell 40).trans v40.out
  have L10 := (ND.out.cell 17).trans d17.out
  go_wp2_with (first | ((with_reducible refine wpList_load_want (op := ⟨some 60, .load 25 (.tmp 59), _, _, _, _⟩) ?wg7 25 (.tmp 59) ?wo7 ⟨V7.heap.size, 22, none⟩ ?wx7 (.agg DA) L7.out ?_); (case wg7 => rfl); (case wo7 => rfl); (case wx7 => rfl)) | ((with_reducible refine wpList_load_want (op := ⟨some 62, .load 25 (.tmp 61), _, _, _, _⟩) ?wg8 25 (.tmp 61) ?wo8 ⟨V4.heap.size, 0, none⟩ ?wx8 (.agg DA) L8.out ?_); (case wg8 => rfl); (case wo8 => rfl); (case wx8 => rfl)))
  clear L7 L8 L9 L10
  refine (CG.out _ _ RO.out).mono ?_
  rintro e V12 ⟨rfl, hy⟩
  replace K := Lib.hid (K.out.trans (hy.mono K.out.size))
  replace NK := Lib.hid (NK.out.below hy NK.out.lt)
  replace R0 := Lib.hid (R0.out.below hy)
  replace ND := Lib.hid (ND.out.below hy ND.out.lt)
  replace RO := Lib.hid (RO.out.below hy)
  replace NV := Lib.hid (NV.out.below hy NV.out.lt)
  replace RS := Lib.hid (RS.out.below hy)
  clear hy
  have cv1 := conv_rd V12 22 9 5 Try.underlying22 Try.underlying5 Try.underlying9 _ _ RS.out
  have cv2 := conv_rd V12 22 9 5 Try.underlying22 Try.underlying5 Try.underlying9 _ _ R0.out
  go_wp2_with fail
  have h1 := (Below.refl V12.heap.size V12).alloc (Nat.le_refl _) (.cells #[Value.int .u8 1, .int .u8 2, .int .u8 3] 5)
  have r1 := rd_lit V12 .u8 5 [1, 2, 3] 3 (0, 0) rfl (by simp [maxLen])
  have h2 := (Below.refl (V12.alloc (.cells #[Value.int .u8 1, .int .u8 2, .int .u8 3] 5)).heap.size (V12.alloc (.cells #[Value.int .u8 1, .int .u8 2, .int .u8 3] 5))).alloc (Nat.le_refl _) (.cells #[Value.int .u8 1, .int .u8 5] 5)
  have r2 := rd_lit (V12.alloc (.cells #[Value.int .u8 1, .int .u8 2, .int .u8 3] 5)) .u8 5 [1, 5] 2 (0, 0) rfl (by simp [maxLen])
  rw [World.size_alloc] at r2
  have L1 := Lib.hid (show Rd (V12.alloc (.cells #[Value.int .u8 1, .int .u8 2, .int .u8 3] 5)) (.slice (some ⟨V12.heap.size, 0, none⟩) 3 3) (nus .u8 [1, 2, 3]) from r1)
  have L2 := Lib.hid (show Rd ((V12.alloc (.cells #[Value.int .u8 1, .int .u8 2, .int .u8 3] 5)).alloc (.cells #[Value.int .u8 1, .int .u8 5] 5)) (.slice (some ⟨V12.heap.size + 1, 0, none⟩) 2 2) (nus .u8 [1, 5]) from r2)
  replace L1 := Lib.hid (L1.out.below h2)
  replace K := Lib.hid ((K.out.trans (h1.mono K.out.size)).trans (h2.mono (Nat.le_trans K.out.size h1.size)))
  clear h1 h2 r1 r2 cv1 cv2
  refine (CF.out _ _ _ L1.out L2.out).mono ?_
  rintro e V13 ⟨xd, rfl, od, hy⟩
  replace K := Lib.hid (K.out.trans (hy.mono K.out.size))
  have RD := Lib.hid (Rd.own od)
  clear od hy L1 L2 CF
  go_wp2_with fail
  have h1 := (Below.refl V13.heap.size V13).alloc (Nat.le_refl _) (.cells #[Value.int .i64 1, .int .i64 2] 3)
  have r1 := rd_lit V13 .i64 3 [1, 2] 2 (0, 0) rfl (by simp [maxLen])
  have L1 := Lib.hid (show Rd (V13.alloc (.cells #[Value.int .i64 1, .int .i64 2] 3)) (.slice (some ⟨V13.heap.size, 0, none⟩) 2 2) (nus .i64 [1, 2]) from r1)
  replace RD := Lib.hid (RD.out.below h1)
  replace K := Lib.hid (K.out.trans (h1.mono K.out.size))
  clear h1 r1
  refine (CI.out _ _ _ RD.out L1.out).mono ?_
  rintro e V14 ⟨rfl, hy⟩
  replace K := Lib.hid (K.out.trans (hy.mono K.out.size))
  clear hy RD L1 CI
  go_wp2
  go_ret
  exact ⟨rfl, K.out⟩
end Go.Proofs.Ythionipmohbnhaa
namespace Go.Proofs.Ythionipmohbnhaa
open Go.RowKit
theorem rchange_b (old : Nat) (vf vt : Value) (F T : List Nat) (w : World) (hf : Rd w vf (nus .u8 F)) (ht : Rd w vt (nus .u8 T))
    (hz : F.length ≤ 1000) (hz2 : T.length ≤ 1000) (hbF : ∀ c ∈ F, c < 256) (hbT : ∀ c ∈ T, c < 256) (ho : old < 65536) :
    Calls Try.prog 46 #[.int .i64 (old : Int), vf, vt] w fun e w' => e = .returned (.int .i64 (chA old F T : Nat)) ∧ Below w.heap.size w w' :=
  (rchange_any old vf vt F T w hf ht hz hz2 hbF hbT ho).mono fun e w1 hh => ⟨hh.1, by obtain ⟨n, h⟩ := hh.2; rw [h]; exact below_drewN (Below.refl _ _) n⟩
set_option maxRecDepth 100000 in
set_option maxHeartbeats 1000000 in
theorem rport_no (p : Nat) (v : Value) (zs : List Nat) (tp : Nat) (v1 : Bool) (F : List Nat) (v2 : Bool) (D : List Nat) (w : World) (hr : Rd w v (nus .u8 zs)) (hb : ∀ c ∈ zs, c < 256) (h : fs p zs ≠ 0 ∨ v1 ≠ v2) :
    Calls Try.prog 24 #[.int .u8 (p : Int), v, .int .i64 (tp : Int), adr v1 F, adr v2 D] w fun e w' => e = .returned (.slice none 0 0) ∧ Below w.heap.size w w' := by
  have YH : Hid ((rs7 p zs).size = Array.size (#[Value.int .i64 0, .int .i64 0, .int .u8 0] : Array Value)) := rs7_size p zs
  have ZH := Lib.hid (i34.trans (congrArg some (rs7_size p zs).symm))
  have AH := Lib.hid (rs7_all p zs)
  have CS := Lib.hid (fun W (h : Rd W v (nus .u8 zs)) => rread_any p v zs W h hb)
  obtain ⟨a, cap, rfl, -, -⟩ := rd_shape hr
  unfold adr
  have E1 := Lib.hid (show (cellsA v1 F)[0]? = some (.bool v1) from cellsA_head _ _)
  have E2 := Lib.hid (show (cellsA v2 D)[0]? = some (.bool v2) from cellsA_head _ _)
  have I1 := Lib.hid (show True from trivial)
  have I2 := Lib.hid (show True from trivial)
  generalize cellsA v1 F = c1 at *
  generalize cellsA v2 D = c2 at *
  generalize rs7 p zs = H at *
  generalize fs p zs = r at *
  generalize zs.length = n at *
  have K := Lib.hid (Below.refl w.heap.size w)
  have HR := Lib.hid hr
  clear hr hb
  go_enter Try.func24, Try.ntmps24
  have hal := (Below.refl w.heap.size w).alloc (Nat.le_refl _) (.cells c1 25)
  replace K := Lib.hid (K.out.trans (hal.mono K.out.size))
  have N1 := Lib.hid (Blk.new w 25 c1)
  clear hal
  have hal := (Below.refl (w.alloc (.cells c1 25)).heap.size (w.alloc (.cells c1 25))).alloc (Nat.le_refl _) (.cells c2 25)
  replace K := Lib.hid (K.out.trans (hal.mono K.out.size))
  replace N1 := Lib.hid (N1.out.below hal N1.out.lt)
  have N2q := Blk.new (w.alloc (.cells c1 25)) 25 c2
  simp only [World.size_alloc] at N2q
  have N2 := Lib.hid N2q
  clear N2q
  clear hal
  go_wp2_with fail
  have hzV1 : Hid (((w.alloc (.cells c1 25)).alloc (.cells c2 25)).heap.size = w.heap.size + 1 + 1) := by show _ = _; simp only [World.size_alloc]
  generalize ((w.alloc (.cells c1 25)).alloc (.cells c2 25)) = V1 at *
  refine (CS.out _ (HR.out.below K.out)).mono ?_
  rintro e V2 ⟨rfl, hy⟩
  replace K := Lib.hid (K.out.trans (hy.mono K.out.size))
  replace N1 := Lib.hid (N1.out.below hy N1.out.lt)
  replace N2 := Lib.hid (N2.out.below hy N2.out.lt)
  clear hy
  go_wp2_with (((with_reducible refine wpList_blk_store (op := ⟨none, .store 71 (.tmp 11) (.tmp 21), _, _, _, _⟩) ?sg1 71 (.tmp 11) (.tmp 21) ?so1 (V2.heap.size) H ?sx1 ?sy1 (Blk.new V2 71 #[Value.int .i64 0, .int .i64 0, .int .u8 0]) YH.out ZH.out AH.out ?_); (case sg1 => rfl); (case so1 => rfl); (case sx1 => rfl); (case sy1 => rfl)))
  have qN1NS : w.heap.size < V2.heap.size := N1.out.lt
  have qN2NS : w.heap.size + 1 < V2.heap.size := N2.out.lt
  intro V3 hA hF hB
  have hy := ((Below.refl V2.heap.size V2).alloc (Nat.le_refl _) (.cells #[Value.int .i64 0, .int .i64 0, .int .u8 0] 71)).trans (hB _ (Nat.le_refl _))
  replace K := Lib.hid (K.out.trans (hy.mono K.out.size))
  replace N1 := Lib.hid (N1.out.below hy N1.out.lt)
  replace N2 := Lib.hid (N2.out.below hy N2.out.lt)
  have NS := Lib.hid hA
  clear hA hF hB hy
  have hc1 := (N1.out.cell 0).trans E1.out
  have hc2 := (N2.out.cell 0).trans E2.out
  by_cases hr0 : r = 0
  · have hv : v1 ≠ v2 := by rcases h with h | h; exact absurd hr0 h; exact h
    subst hr0
    clear h
    cases v1 <;> cases v2
    · exact absurd rfl hv
    · clear hv
      go_wp2
      go_ret
      exact ⟨rfl, K.out⟩
    · clear hv
      go_wp2
      go_ret
      exact ⟨rfl, K.out⟩
    · exact absurd rfl hv
  · have g0 : ((r : Int) != 0) = true := by simp; omega
    clear h hr0 hc1 hc2
    go_wp2
    go_ret
    exact ⟨rfl, K.out⟩
set_option maxRecDepth 100000 in
set_option maxHeartbeats 4000000 in
theorem rport_yes (p : Nat) (v : Value) (zs : List Nat) (tp : Nat) (v1 : Bool) (F D : List Nat) (w : World) (hr : Rd w v (nus .u8 zs)) (hb : ∀ c ∈ zs, c < 256) (h : fs p zs = 0) (hz : zs.length ≤ 3000) (ht : tp < 65536)
    (hF : F.length = 16) (hD : D.length = 16) (hbF : ∀ c ∈ F, c < 256) (hbD : ∀ c ∈ D, c < 256) :
    Calls Try.prog 24 #[.int .u8 (p : Int), v, .int .i64 (tp : Int), adr v1 F, adr v1 D] w fun e w' => ∃ x, e = .returned x ∧ Rd w' x (nus .u8 (prt p zs tp v1 F D)) ∧ Below w.heap.size w w' := by
  have YH : Hid ((rs7 p zs).size = Array.size (#[Value.int .i64 0, .int .i64 0, .int .u8 0] : Array Value)) := rs7_size p zs
  have ZH := Lib.hid (i34.trans (congrArg some (rs7_size p zs).symm))
  have AH := Lib.hid (rs7_all p zs)
  have CS := Lib.hid (fun W (h : Rd W v (nus .u8 zs)) => rread_any p v zs W h hb)
  rw [h] at CS
  have hn8 : 8 ≤ zs.length := by rcases fs_yes p zs h with ⟨-, h1, -⟩ | ⟨-, h1, -⟩ <;> omega
  have hat := sAt_in p zs h
  have hat1 := sAt_le p
  obtain ⟨a, cap, rfl, hlc, hlm⟩ := rd_shape hr
  obtain ⟨b, off, rfl, -⟩ := hr.cells (by omega)
  have CB1 := Lib.hid (fun w' => rbytes_own v1 F hF w')
  have CB2 := Lib.hid (fun w' => rbytes_own v1 D hD w')
  have lF := bytesA_len v1 F hF
  have lD := bytesA_len v1 D hD
  have bF := bytesA_lt v1 F hbF
  have bD := bytesA_lt v1 D hbD
  have CP := Lib.hid (fun W g cx base (h : W.ownsRow base 5 1 (.slice (some ⟨g, 0, none⟩) zs.length cx) zs.length (nus .u8 zs)) => rput16_any g zs.length cx base 2 tp zs W h (by unfold maxLen; omega) (by omega) ht)
  rw [set_ov _ _ _ (by omega) ht] at CP
  have CA := Lib.hid (fun W => rsumAt_any p (by rcases fs_yes p zs h with ⟨h1, -⟩ | ⟨h1, -⟩; exact .inl h1; exact .inr h1) W)
  have CW := Lib.hid (fun W (h : Rd W (.slice (some ⟨b, off, none⟩) zs.length cap) (nus .u8 zs)) => be16_b _ _ _ (sAt p) zs W h hb (by omega))
  have hwl := u2_lt zs (sAt p) hb
  have hm2 : ((ov zs (bg 2 tp) 2).drop 2).take 2 = bg 2 tp := ov_two zs tp (by omega)
  have l2 := two_at zs 2 (by omega)
  have CG := Lib.hid (fun W x y h1 h2 => rchange_b (u2 zs (sAt p)) x y ((zs.drop 2).take 2) (bg 2 tp) W h1 h2 (by omega) (by rw [bg_length]; omega) (fun c hc => hb c (List.mem_of_mem_drop (List.mem_of_mem_take hc))) (bg_lt 2 tp) hwl)
  have hc0 : chA (u2 zs (sAt p)) ((zs.drop 2).take 2) (bg 2 tp) < 65536 := chA_lt _ _ _ hwl
  have CH := Lib.hid (fun W x y h1 h2 => rchange_b (chA (u2 zs (sAt p)) ((zs.drop 2).take 2) (bg 2 tp)) x y (bytesA v1 F) (bytesA v1 D) W h1 h2 (by rw [lF]; split <;> omega) (by rw [lD]; split <;> omega) bF bD hc0)
  have hp1 := pc1_lt p zs tp v1 F D hb
  have hpc := pc_lt p zs tp v1 F D hb
  rw [show chA (chA (u2 zs (sAt p)) ((zs.drop 2).take 2) (bg 2 tp)) (bytesA v1 F) (bytesA v1 D) = pc1 p zs tp v1 F D from rfl] at CH
  have lov : (ov zs (bg 2 tp) 2).length = zs.length := ov_length _ _ _ (by rw [bg_length]; omega)
  have CQ := Lib.hid (fun W g cx base (h : W.ownsRow base 5 1 (.slice (some ⟨g, 0, none⟩) zs.length cx) zs.length (nus .u8 (ov zs (bg 2 tp) 2))) => rput16_any g zs.length cx base (sAt p) (pc p zs tp v1 F D) (ov zs (bg 2 tp) 2) W h (by unfold maxLen; omega) (by omega) hpc)
  rw [set_ov _ _ _ (by omega) hpc] at CQ
  have HS1 := Lib.hid (hr.sub 2 2 (by omega))
  have HP : Hid (pc p zs tp v1 F D = if p = 17 ∧ pc1 p zs tp v1 F D = 0 then 65535 else pc1 p zs tp v1 F D) := rfl
  have HX : Hid (prt p zs tp v1 F D = if wo p zs then ov zs (bg 2 tp) 2 else ov (ov zs (bg 2 tp) 2) (bg 2 (pc p zs tp v1 F D)) (sAt p)) := rfl
  have HW : Hid (wo p zs = decide (p = 17 ∧ u2 zs (sAt p) = 0)) := by
    show _ = _
    unfold wo
    by_cases h1 : p = 17
    · subst h1; rfl
    · rw [decide_eq_false (by omega), decide_eq_false (by omega)]
  unfold adr at CB1 CB2 ⊢
  have E1 := Lib.hid (show (cellsA v1 F)[0]? = some (.bool v1) from cellsA_head _ _)
  have E2 := Lib.hid (show (cellsA v1 D)[0]? = some (.bool v1) from cellsA_head _ _)
  have z1 : (cellsA v1 F).size = 17 := by rw [cellsA_size, hF]
  have z2 : (cellsA v1 D).size = 17 := by rw [cellsA_size, hD]
  have I1 := Lib.hid (i24.trans (congrArg some z1.symm))
  have I2 := Lib.hid (i24.trans (congrArg some z2.symm))
  have HM2 := Lib.hid hm2
  have HL := Lib.hid (show zs.length = zs.length from rfl)
  have K := Lib.hid (Below.refl w.heap.size w)
  have HR := Lib.hid hr
  clear hr hb h z1 z2 hbF hbD bF bD hm2 hc0 l2 lF lD hF hD
  generalize cellsA v1 F = c1 at *
  generalize cellsA v1 D = c2 at *
  generalize bytesA v1 F = bf at *
  generalize bytesA v1 D = bd at *
  generalize wo p zs = wq at *
  generalize pc p zs tp v1 F D = pcv at *
  generalize pc1 p zs tp v1 F D = pc1v at *
  generalize prt p zs tp v1 F D = RES at *
  generalize u2 zs (sAt p) = o0 at *
  generalize ov zs (bg 2 tp) 2 = ZO at *
  generalize (zs.drop 2).take 2 = Z2 at *
  generalize chA o0 Z2 (bg 2 tp) = ch0 at *
  generalize bg 2 tp = bt at *
  generalize rs7 p zs = H at *
  obtain ⟨at0, hat0⟩ : ∃ x, x = sAt p := ⟨_, rfl⟩
  rw [← hat0] at CA CW CQ HX hat hat1
  clear hat0
  generalize zs.length = n at *
  clear HL
  unfold maxLen at hlm
  go_enter Try.func24, Try.ntmps24
  have hal := (Below.refl w.heap.size w).alloc (Nat.le_refl _) (.cells c1 25)
  replace K := Lib.hid (K.out.trans (hal.mono K.out.size))
  have N1 := Lib.hid (Blk.new w 25 c1)
  clear hal
  have hal := (Below.refl (w.alloc (.cells c1 25)).heap.size (w.alloc (.cells c1 25))).alloc (Nat.le_refl _) (.cells c2 25)
  replace K := Lib.hid (K.out.trans (hal.mono K.out.size))
  replace N1 := Lib.hid (N1.out.below hal N1.out.lt)
  have N2q := Blk.new (w.alloc (.cells c1 25)) 25 c2
  simp only [World.size_alloc] at N2q
  have N2 := Lib.hid N2q
  clear N2q
  clear hal
  go_wp2_with fail
  have hzV1 : Hid (((w.alloc (.cells c1 25)).alloc (.cells c2 25)).heap.size = w.heap.size + 1 + 1) := by show _ = _; simp only [World.size_alloc]
  generalize ((w.alloc (.cells c1 25)).alloc (.cells c2 25)) = V1 at *
  refine (CS.out _ (HR.out.below K.out)).mono ?_
  rintro e V2 ⟨rfl, hy⟩
  replace K := Lib.hid (K.out.trans (hy.mono K.out.size))
  replace N1 := Lib.hid (N1.out.below hy N1.out.lt)
  replace N2 := Lib.hid (N2.out.below hy N2.out.lt)
  clear hy
  go_wp2_with (((with_reducible refine wpList_blk_store (op := ⟨none, .store 71 (.tmp 11) (.tmp 21), _, _, _, _⟩) ?sg2 71 (.tmp 11) (.tmp 21) ?so2 (V2.heap.size) H ?sx2 ?sy2 (Blk.new V2 71 #[Value.int .i64 0, .int .i64 0, .int .u8 0]) YH.out ZH.out AH.out ?_); (case sg2 => rfl); (case so2 => rfl); (case sx2 => rfl); (case sy2 => rfl)))
  have qN1NS : w.heap.size < V2.heap.size := N1.out.lt
  have qN2NS : w.heap.size + 1 < V2.heap.size := N2.out.lt
  intro V3 hA hF hB
  have hy := ((Below.refl V2.heap.size V2).alloc (Nat.le_refl _) (.cells #[Value.int .i64 0, .int .i64 0, .int .u8 0] 71)).trans (hB _ (Nat.le_refl _))
  replace K := Lib.hid (K.out.trans (hy.mono K.out.size))
  replace N1 := Lib.hid (N1.out.below hy N1.out.lt)
  replace N2 := Lib.hid (N2.out.below hy N2.out.lt)
  have NS := Lib.hid hA
  clear hA hF hB hy
  have hc1 := (N1.out.cell 0).trans E1.out
  have hc2 := (N2.out.cell 0).trans E2.out
  have ge : (v1 != v1) = false := by cases v1 <;> rfl
  go_upto_region 4 with fail
  clear hc1 hc2 ge
  have hw1 : w.heap.size ≤ V3.heap.size := K.out.size
  have hN1 : w.heap.size + 1 < V3.heap.size := N2.out.lt
  have hNS := NS.out.lt
  have hwK := K.out
  have L := Lib.hid (Below.refl V3.heap.size V3)
  have hal := (Below.refl V3.heap.size V3).alloc (Nat.le_refl _) (.cells #[] 5)
  have O := Lib.hid (own_low (b1 := V3.heap.size) L.out.size (own_none V3 5))
  replace L := Lib.hid (L.out.trans (hal.mono L.out.size))
  clear hal
  go_wp2_with ((at_builtin; refine wpList_app rfl (.tmp 32) (.tmp 33) rfl V3.heap.size _ (0) [] rfl O.out (some ⟨b, off, none⟩) (n) (cap) zs rfl (HR.out.below (hwK.trans (L.out.mono hw1))) (by intro e; cases e) ?ap3b ?ap3c ?ap3d))
  case ap3b => omega
  case ap3c => exact L.out.size
  intro vx V4 oz gz
  replace L := Lib.hid (L.out.grown gz L.out.size (fun k e => by first | exact (O.out.lt k e).1 | (cases e; first | exact Nat.le_refl _ | omega)))
  have oz : V4.ownsRow V3.heap.size 5 1 vx (n) (nus .u8 (zs)) := by first | exact oz | simpa using oz
  replace O := Lib.hid oz
  obtain ⟨g, cx, rfl, hcx, hcxm, hg, hgu⟩ := own_at O.out (by omega)
  clear oz gz
  have hy := L.out
  replace K := Lib.hid (K.out.trans (hy.mono K.out.size))
  replace N1 := Lib.hid (N1.out.below hy N1.out.lt)
  replace N2 := Lib.hid (N2.out.below hy N2.out.lt)
  replace NS := Lib.hid (NS.out.below hy NS.out.lt)
  clear hy L
  clear hwK
  go_wp2_with fail
  refine (CP.out _ _ _ _ O.out).mono ?_
  rintro e V5 ⟨rfl, og, gr⟩
  replace K := Lib.hid (K.out.grown gr K.out.size (fun k e => by first | (cases e; done) | (cases e; first | exact Nat.le_refl _ | omega)))
  replace N1 := Lib.hid (show Blk _ _ _ _ from (gr.block _ N1.out.lt (by first | (simp; done) | (simp; omega))).trans N1.out)
  replace N2 := Lib.hid (show Blk _ _ _ _ from (gr.block _ N2.out.lt (by first | (simp; done) | (simp; omega))).trans N2.out)
  replace NS := Lib.hid (show Blk _ _ _ _ from (gr.block _ NS.out.lt (by first | (simp; done) | (simp; omega))).trans NS.out)
  replace O := Lib.hid og
  clear og gr
  go_wp2_with fail
  refine (CA.out _).mono ?_
  rintro e V6 ⟨rfl, rfl⟩
  go_wp2_with fail
  refine (CW.out _ (HR.out.below K.out)).mono ?_
  rintro e V7 ⟨rfl, hy⟩
  replace K := Lib.hid (K.out.trans (hy.mono K.out.size))
  replace N1 := Lib.hid (N1.out.below hy N1.out.lt)
  replace N2 := Lib.hid (N2.out.below hy N2.out.lt)
  replace NS := Lib.hid (NS.out.below hy NS.out.lt)
  replace O := Lib.hid (row_under O.out hy)
  clear hy
  cases wq with
  | true =>
    rw [show ZO = RES by rw [HX.out]; rfl] at O
    have hw := HW.out.symm
    rw [decide_eq_true_eq] at hw
    obtain ⟨rfl, rfl⟩ := hw
    clear HX HW
    go_wp2
    go_ret
    exact ⟨_, rfl, Rd.own O.out, K.out⟩
  | false =>
    have HX2 := Lib.hid (show RES = ov ZO (bg 2 pcv) at0 by rw [HX.out]; rfl)
    have hw := HW.out.symm
    rw [decide_eq_false_iff_not] at hw
    have HW2 := Lib.hid hw
    clear HX HW hw
    have hs2 := (Rd.own O.out).sub 2 2 (by omega)
    rw [HM2.out] at hs2
    have HS2 := Lib.hid hs2
    clear hs2
    by_cases h17 : p = 17
    · subst h17
      have g4 : ((o0 : Int) == 0) = false := by rw [beq_eq_false_iff_ne]; have := HW2.out; omega
      go_wp2_with fail
      have H2 := Lib.hid (HS1.out.below K.out)
      clear HS2
      have hs2 := (Rd.own O.out).sub 2 2 (by omega)
      rw [HM2.out] at hs2
      have HS2 := Lib.hid hs2
      clear hs2
      go_wp2_with fail
      refine wp_region_held (S := (fun w' : World => Below (V7.heap.size) V7 w')) (by kernel_rfl) ?_
      change wpAnyH _ _ _ _ _ _ _ _ V7.drew
      have hy : Below V7.heap.size V7 V7.drew := (Below.refl _ _).drew
      have hE0 : Below (V7.heap.size) V7 V7.drew := (Below.refl _ _).drew
      clear hy
      generalize V7.drew = Y10x0 at hE0  ⊢
      have E0 := Lib.hid hE0
      clear hE0
      refine tkA 0 (?_) ?_ E0.out ?_
      rotate_left
      · (intro w1 hS; go_simp; try with_reducible rfl)
      simp only [Act.put, tS1, tS2, tS3]
      refine tkA 1 (?_) ?_ E0.out ?_
      rotate_left
      · (intro w1 hS; go_simp; try with_reducible rfl)
      simp only [Act.put, tS1, tS2, tS3]
      refine tkA 2 (?_) ?_ E0.out ?_
      rotate_left
      · (intro w1 hS; have hW := hS; have q : (2 : Int) ≤ (cap : Int) := (by omega); have q3 : (4 : Int) ≤ (cap : Int) := (by omega); have q4 : (4 : Int) ≤ (n : Int) := (by omega); have q2 : (cap = 2) = False := (eq_false (by omega)); clear hW hS; go_simp; try with_reducible rfl)
      simp only [Act.put, tS1, tS2, tS3]
      refine tkA 3 (?_) ?_ E0.out ?_
      rotate_left
      · (intro w1 hS; go_simp; try with_reducible rfl)
      simp only [Act.put, tS1, tS2, tS3]
      refine tkA 4 (?_) ?_ E0.out ?_
      rotate_left
      · (intro w1 hS; have hW := hS; have q : (2 : Int) ≤ (cx : Int) := (by omega); have q3 : (4 : Int) ≤ (cx : Int) := (by omega); have q4 : (4 : Int) ≤ (n : Int) := (by omega); have q2 : (cx = 2) = False := (eq_false (by omega)); clear hW hS; go_simp; try with_reducible rfl)
      simp only [Act.put, tS1, tS2, tS3]
      refine tkA 6 (.agg c1) ?_ E0.out ?_
      · (intro w1 hS; have hW := hS; exact exec_load 25 (.tmp 8) rfl _ rfl _ (run_blk_load (P := Try.prog) 25 (w.heap.size) _ (N1.out.below hW N1.out.lt) Try.underlying25 rfl I1.out))
      simp only [Act.put, tS1, tS2, tS3]
      refine tkA 8 (.agg c2) ?_ E0.out ?_
      · (intro w1 hS; have hW := hS; exact exec_load 25 (.tmp 9) rfl _ rfl _ (run_blk_load (P := Try.prog) 25 (w.heap.size + 1) _ (N2.out.below hW N2.out.lt) Try.underlying25 rfl I2.out))
      simp only [Act.put, tS1, tS2, tS3]
      refine tkO 5 (fun KK hK => ?_)
      go_simp
      refine (CG.out Y10x0 _ _ (H2.out.below E0.out) (HS2.out.below E0.out)).mono ?_
      rintro e Y10x1 ⟨rfl, hy⟩
      have E1 := Lib.hid (E0.out.trans (hy.mono E0.out.size))
      have C1 := Lib.hid E1.out
      clear hy E0
      refine hK.out _ _ C1.out (fun _ => ?_)
      clear hK KK
      refine wpAnyH_mono (S' := (fun w' : World => Below Y10x1.heap.size Y10x1 w')) (fun w1 h => C1.out.trans (h.mono C1.out.size)) _ _ _ _ ?_
      clear C1
      try simp only [Act.put, tS1, tS2, tS3]
      refine tkO 7 (fun KK hK => ?_)
      go_simp
      refine (CB1.out Y10x1).mono ?_
      rintro e Y10x2 ⟨z1, rfl, oz1, hy⟩
      have E2 := Lib.hid (E1.out.trans (hy.mono E1.out.size))
      have C2 := Lib.hid hy
      have Z1 := Lib.hid (oz1)
      clear oz1
      clear hy E1
      refine hK.out _ _ C2.out (fun _ => ?_)
      clear hK KK
      refine wpAnyH_mono (S' := (fun w' : World => Below Y10x2.heap.size Y10x2 w')) (fun w1 h => C2.out.trans (h.mono C2.out.size)) _ _ _ _ ?_
      clear C2
      try simp only [Act.put, tS1, tS2, tS3]
      refine tkO 9 (fun KK hK => ?_)
      go_simp
      refine (CB2.out Y10x2).mono ?_
      rintro e Y10x3 ⟨z2, rfl, oz2, hy⟩
      replace Z1 := Lib.hid (row_under Z1.out hy)
      have E3 := Lib.hid (E2.out.trans (hy.mono E2.out.size))
      have C3 := Lib.hid hy
      have Z2o := Lib.hid (oz2)
      clear oz2
      clear hy E2
      refine hK.out _ _ C3.out (fun _ => ?_)
      clear hK KK
      refine wpAnyH_mono (S' := (fun w' : World => Below Y10x3.heap.size Y10x3 w')) (fun w1 h => C3.out.trans (h.mono C3.out.size)) _ _ _ _ ?_
      clear C3
      try simp only [Act.put, tS1, tS2, tS3]
      refine tkO 10 (fun KK hK => ?_)
      go_simp
      refine (CH.out Y10x3 _ _ (Rd.own Z1.out) (Rd.own Z2o.out)).mono ?_
      rintro e Y10x4 ⟨rfl, hy⟩
      replace Z1 := Lib.hid (row_under Z1.out hy)
      replace Z2o := Lib.hid (row_under Z2o.out hy)
      have E4 := Lib.hid (E3.out.trans (hy.mono E3.out.size))
      have C4 := Lib.hid hy
      clear hy E3
      refine hK.out _ _ C4.out (fun _ => ?_)
      clear hK KK
      refine wpAnyH_mono (S' := (fun w' : World => Below Y10x4.heap.size Y10x4 w')) (fun w1 h => C4.out.trans (h.mono C4.out.size)) _ _ _ _ ?_
      clear C4
      try simp only [Act.put, tS1, tS2, tS3]
      refine tkA 11 (?_) ?_ (Below.refl _ _) ?_
      rotate_left
      · (intro w1 hS; go_simp; try with_reducible rfl)
      simp only [Act.put, tS1, tS2, tS3]
      refine wpAnyH_done (by kernel_rfl) ?_ _
      have hy := E4.out
      replace K := Lib.hid (K.out.trans (hy.mono K.out.size))
      replace N1 := Lib.hid (N1.out.below hy N1.out.lt)
      replace N2 := Lib.hid (N2.out.below hy N2.out.lt)
      replace NS := Lib.hid (NS.out.below hy NS.out.lt)
      replace O := Lib.hid (row_under O.out hy)
      clear hy E4
      clear Z1 Z2o H2 HS2
      by_cases h0 : pc1v = 0
      · subst h0
        obtain rfl : pcv = 65535 := by have hp := HP.out; simpa using hp
        clear HP g4
        go_wp2_with fail
        refine (CQ.out _ _ _ _ O.out).mono ?_
        rintro e V8 ⟨rfl, og, gr⟩
        replace K := Lib.hid (K.out.grown gr K.out.size (fun k e => by first | (cases e; done) | (cases e; first | exact Nat.le_refl _ | omega)))
        replace N1 := Lib.hid (show Blk _ _ _ _ from (gr.block _ N1.out.lt (by first | (simp; done) | (simp; omega))).trans N1.out)
        replace N2 := Lib.hid (show Blk _ _ _ _ from (gr.block _ N2.out.lt (by first | (simp; done) | (simp; omega))).trans N2.out)
        replace NS := Lib.hid (show Blk _ _ _ _ from (gr.block _ NS.out.lt (by first | (simp; done) | (simp; omega))).trans NS.out)
        replace O := Lib.hid og
        clear og gr
        rw [← HX2.out] at O
        go_wp2
        go_ret
        exact ⟨_, rfl, Rd.own O.out, K.out⟩
      obtain rfl : pcv = pc1v := by rw [HP.out, if_neg (fun h => h0 h.2)]
      have g5 : ((pcv : Int) == 0) = false := by rw [beq_eq_false_iff_ne]; omega
      clear HP h0 g4
      go_wp2_with fail
      refine (CQ.out _ _ _ _ O.out).mono ?_
      rintro e V8 ⟨rfl, og, gr⟩
      replace K := Lib.hid (K.out.grown gr K.out.size (fun k e => by first | (cases e; done) | (cases e; first | exact Nat.le_refl _ | omega)))
      replace N1 := Lib.hid (show Blk _ _ _ _ from (gr.block _ N1.out.lt (by first | (simp; done) | (simp; omega))).trans N1.out)
      replace N2 := Lib.hid (show Blk _ _ _ _ from (gr.block _ N2.out.lt (by first | (simp; done) | (simp; omega))).trans N2.out)
      replace NS := Lib.hid (show Blk _ _ _ _ from (gr.block _ NS.out.lt (by first | (simp; done) | (simp; omega))).trans NS.out)
      replace O := Lib.hid og
      clear og gr
      rw [← HX2.out] at O
      go_wp2
      go_ret
      exact ⟨_, rfl, Rd.own O.out, K.out⟩
    · have g4 : ((p : Int) == 17) = false := by rw [beq_eq_false_iff_ne]; omega
      go_wp2_with fail
      have H2 := Lib.hid (HS1.out.below K.out)
      clear HS2
      have hs2 := (Rd.own O.out).sub 2 2 (by omega)
      rw [HM2.out] at hs2
      have HS2 := Lib.hid hs2
      clear hs2
      go_wp2_with fail
      refine wp_region_held (S := (fun w' : World => Below (V7.heap.size) V7 w')) (by kernel_rfl) ?_
      change wpAnyH _ _ _ _ _ _ _ _ V7.drew
      have hy : Below V7.heap.size V7 V7.drew := (Below.refl _ _).drew
      have hE0 : Below (V7.heap.size) V7 V7.drew := (Below.refl _ _).drew
      clear hy
      generalize V7.drew = Y10x0 at hE0  ⊢
      have E0 := Lib.hid hE0
      clear hE0
      refine tkA 0 (?_) ?_ E0.out ?_
      rotate_left
      · (intro w1 hS; go_simp; try with_reducible rfl)
      simp only [Act.put, tS1, tS2, tS3]
      refine tkA 1 (?_) ?_ E0.out ?_
      rotate_left
      · (intro w1 hS; go_simp; try with_reducible rfl)
      simp only [Act.put, tS1, tS2, tS3]
      refine tkA 2 (?_) ?_ E0.out ?_
      rotate_left
      · (intro w1 hS; have hW := hS; have q : (2 : Int) ≤ (cap : Int) := (by omega); have q3 : (4 : Int) ≤ (cap : Int) := (by omega); have q4 : (4 : Int) ≤ (n : Int) := (by omega); have q2 : (cap = 2) = False := (eq_false (by omega)); clear hW hS; go_simp; try with_reducible rfl)
      simp only [Act.put, tS1, tS2, tS3]
      refine tkA 3 (?_) ?_ E0.out ?_
      rotate_left
      · (intro w1 hS; go_simp; try with_reducible rfl)
      simp only [Act.put, tS1, tS2, tS3]
      refine tkA 4 (?_) ?_ E0.out ?_
      rotate_left
      · (intro w1 hS; have hW := hS; have q : (2 : Int) ≤ (cx : Int) := (by omega); have q3 : (4 : Int) ≤ (cx : Int) := (by omega); have q4 : (4 : Int) ≤ (n : Int) := (by omega); have q2 : (cx = 2) = False := (eq_false (by omega)); clear hW hS; go_simp; try with_reducible rfl)
      simp only [Act.put, tS1, tS2, tS3]
      refine tkA 6 (.agg c1) ?_ E0.out ?_
      · (intro w1 hS; have hW := hS; exact exec_load 25 (.tmp 8) rfl _ rfl _ (run_blk_load (P := Try.prog) 25 (w.heap.size) _ (N1.out.below hW N1.out.lt) Try.underlying25 rfl I1.out))
      simp only [Act.put, tS1, tS2, tS3]
      refine tkA 8 (.agg c2) ?_ E0.out ?_
      · (intro w1 hS; have hW := hS; exact exec_load 25 (.tmp 9) rfl _ rfl _ (run_blk_load (P := Try.prog) 25 (w.heap.size + 1) _ (N2.out.below hW N2.out.lt) Try.underlying25 rfl I2.out))
      simp only [Act.put, tS1, tS2, tS3]
      refine tkO 5 (fun KK hK => ?_)
      go_simp
      refine (CG.out Y10x0 _ _ (H2.out.below E0.out) (HS2.out.below E0.out)).mono ?_
      rintro e Y10x1 ⟨rfl, hy⟩
      have E1 := Lib.hid (E0.out.trans (hy.mono E0.out.size))
      have C1 := Lib.hid E1.out
      clear hy E0
      refine hK.out _ _ C1.out (fun _ => ?_)
      clear hK KK
      refine wpAnyH_mono (S' := (fun w' : World => Below Y10x1.heap.size Y10x1 w')) (fun w1 h => C1.out.trans (h.mono C1.out.size)) _ _ _ _ ?_
      clear C1
      try simp only [Act.put, tS1, tS2, tS3]
      refine tkO 7 (fun KK hK => ?_)
      go_simp
      refine (CB1.out Y10x1).mono ?_
      rintro e Y10x2 ⟨z1, rfl, oz1, hy⟩
      have E2 := Lib.hid (E1.out.trans (hy.mono E1.out.size))
      have C2 := Lib.hid hy
      have Z1 := Lib.hid (oz1)
      clear oz1
      clear hy E1
      refine hK.out _ _ C2.out (fun _ => ?_)
      clear hK KK
      refine wpAnyH_mono (S' := (fun w' : World => Below Y10x2.heap.size Y10x2 w')) (fun w1 h => C2.out.trans (h.mono C2.out.size)) _ _ _ _ ?_
      clear C2
      try simp only [Act.put, tS1, tS2, tS3]
      refine tkO 9 (fun KK hK => ?_)
      go_simp
      refine (CB2.out Y10x2).mono ?_
      rintro e Y10x3 ⟨z2, rfl, oz2, hy⟩
      replace Z1 := Lib.hid (row_under Z1.out hy)
      have E3 := Lib.hid (E2.out.trans (hy.mono E2.out.size))
      have C3 := Lib.hid hy
      have Z2o := Lib.hid (oz2)
      clear oz2
      clear hy E2
      refine hK.out _ _ C3.out (fun _ => ?_)
      clear hK KK
      refine wpAnyH_mono (S' := (fun w' : World => Below Y10x3.heap.size Y10x3 w')) (fun w1 h => C3.out.trans (h.mono C3.out.size)) _ _ _ _ ?_
      clear C3
      try simp only [Act.put, tS1, tS2, tS3]
      refine tkO 10 (fun KK hK => ?_)
      go_simp
      refine (CH.out Y10x3 _ _ (Rd.own Z1.out) (Rd.own Z2o.out)).mono ?_
      rintro e Y10x4 ⟨rfl, hy⟩
      replace Z1 := Lib.hid (row_under Z1.out hy)
      replace Z2o := Lib.hid (row_under Z2o.out hy)
      have E4 := Lib.hid (E3.out.trans (hy.mono E3.out.size))
      have C4 := Lib.hid hy
      clear hy E3
      refine hK.out _ _ C4.out (fun _ => ?_)
      clear hK KK
      refine wpAnyH_mono (S' := (fun w' : World => Below Y10x4.heap.size Y10x4 w')) (fun w1 h => C4.out.trans (h.mono C4.out.size)) _ _ _ _ ?_
      clear C4
      try simp only [Act.put, tS1, tS2, tS3]
      refine tkA 11 (?_) ?_ (Below.refl _ _) ?_
      rotate_left
      · (intro w1 hS; go_simp; try with_reducible rfl)
      simp only [Act.put, tS1, tS2, tS3]
      refine wpAnyH_done (by kernel_rfl) ?_ _
      have hy := E4.out
      replace K := Lib.hid (K.out.trans (hy.mono K.out.size))
      replace N1 := Lib.hid (N1.out.below hy N1.out.lt)
      replace N2 := Lib.hid (N2.out.below hy N2.out.lt)
      replace NS := Lib.hid (NS.out.below hy NS.out.lt)
      replace O := Lib.hid (row_under O.out hy)
      clear hy E4
      clear Z1 Z2o H2 HS2
      obtain rfl : pcv = pc1v := by rw [HP.out, if_neg (fun h => h17 h.1)]
      clear HP h17
      go_wp2_with fail
      refine (CQ.out _ _ _ _ O.out).mono ?_
      rintro e V8 ⟨rfl, og, gr⟩
      replace K := Lib.hid (K.out.grown gr K.out.size (fun k e => by first | (cases e; done) | (cases e; first | exact Nat.le_refl _ | omega)))
      replace N1 := Lib.hid (show Blk _ _ _ _ from (gr.block _ N1.out.lt (by first | (simp; done) | (simp; omega))).trans N1.out)
      replace N2 := Lib.hid (show Blk _ _ _ _ from (gr.block _ N2.out.lt (by first | (simp; done) | (simp; omega))).trans N2.out)
      replace NS := Lib.hid (show Blk _ _ _ _ from (gr.block _ NS.out.lt (by first | (simp; done) | (simp; omega))).trans NS.out)
      replace O := Lib.hid og
      clear og gr
      rw [← HX2.out] at O
      go_wp2
      go_ret
      exact ⟨_, rfl, Rd.own O.out, K.out⟩
theorem rport_any (p : Nat) (v : Value) (zs : List Nat) (tp : Nat) (v1 : Bool) (F : List Nat) (v2 : Bool) (D : List Nat) (w : World) (hr : Rd w v (nus .u8 zs)) (hb : ∀ c ∈ zs, c < 256) (hz : zs.length ≤ 3000) (ht : tp < 65536)
    (hF : F.length = 16) (hD : D.length = 16) (hbF : ∀ c ∈ F, c < 256) (hbD : ∀ c ∈ D, c < 256) :
    Calls Try.prog 24 #[.int .u8 (p : Int), v, .int .i64 (tp : Int), adr v1 F, adr v2 D] w fun e w' => ∃ x, e = .returned x ∧ Rd w' x (nus .u8 (pOut p zs tp v1 F v2 D)) ∧ Below w.heap.size w w' := by
  unfold pOut
  by_cases h : fs p zs = 0 ∧ v1 = v2
  · obtain ⟨h1, rfl⟩ := h
    rw [if_pos ⟨h1, rfl⟩]
    exact rport_yes p v zs tp v1 F D w hr hb h1 hz ht hF hD hbF hbD
  · rw [if_neg h]
    exact (rport_no p v zs tp v1 F v2 D w hr hb (by by_cases h1 : fs p zs = 0; exact .inr (fun e => h ⟨h1, e⟩); exact .inl h1)).mono fun _ _ ⟨e, b⟩ => ⟨_, e, rd_nil _ _, b⟩
end Go.Proofs.Ythionipmohbnhaa
