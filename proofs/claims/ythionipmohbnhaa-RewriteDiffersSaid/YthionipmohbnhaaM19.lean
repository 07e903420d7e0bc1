/- Texts that the walks of this seat lean on, put together. -/
import Derived.Laws.BytesArg
import Derived.Lib.SlBytesConst
import Derived.Test.YthionipmohbnhaaTk
import Derived.Test.YthionipmohbnhaaM01
import Derived.Test.YthionipmohbnhaaM04
import Derived.Test.YthionipmohbnhaaM06
import Derived.Test.YthionipmohbnhaaM07
import Derived.Test.YthionipmohbnhaaM12
import Derived.Test.YthionipmohbnhaaM14
import Derived.Test.YthionipmohbnhaaM16
import Derived.Test.YthionipmohbnhaaM17
import Derived.Test.YthionipmohbnhaaM18
namespace Go.Proofs.Ythionipmohbnhaa
open Go.RowKit
theorem build_any (p : Nat) (hp : p = 6 ∨ p = 17) (v : Bool) (sb db : List Nat) (sp dp f pad : Nat) (a : Option Addr) (la ca : Nat) (zs : List Nat) (tag bare : Bool) (w : World) (hr : Rd w (.slice a la ca) (nus .u8 zs)) (hL : zs.length = la) (hna : a = none → ca = 0) (hb : ∀ c ∈ zs, c < 256) (hz : la ≤ 2000)
    (hl1 : sb.length = 16) (hl2 : db.length = 16) (hb1 : ∀ c ∈ sb, c < 256) (hb2 : ∀ c ∈ db, c < 256) (hv1 : vldA v sb = true) (hv2 : vldA v db = true) (hsp : sp < 65536) (hdp : dp < 65536) (hf : f < 256) (hpad : pad ≤ 100) :
    Calls Try.prog 14 #[.agg (kcells p (cellsA v sb) (cellsA v db) sp dp), .int .u8 (f : Int), .slice a la ca, .bool tag, .bool bare, .int .i64 (pad : Int)] w fun e w' => ∃ x n, e = .returned x ∧ w'.ownsRow w.heap.size 5 1 x n (nus .u8 (frmB v sb db p sp dp f zs tag bare pad)) ∧ Below w.heap.size w w' := by
  rcases hp with rfl | rfl
  · cases v
    · exact build_t4 sb db sp dp f pad a la ca zs tag bare w hr hL hna hb hz hl1 hl2 hb1 hb2 hv1 hv2 hsp hdp hf hpad
    · exact build_t6 sb db sp dp f pad a la ca zs tag bare w hr hL hna hb hz hl1 hl2 hb1 hb2 hv1 hv2 hsp hdp hf hpad
  · cases v <;> cases bare
    · exact build_u4 sb db sp dp f pad a la ca zs tag w hr hL hna hb hz hl1 hl2 hb1 hb2 hv1 hv2 hsp hdp hf hpad
    · exact build_b4 sb db sp dp f pad a la ca zs tag w hr hL hna hb hz hl1 hl2 hb1 hb2 hv1 hv2 hsp hdp hf hpad
    · exact build_u6 sb db sp dp f pad a la ca zs tag w hr hL hna hb hz hl1 hl2 hb1 hb2 hv1 hv2 hsp hdp hf hpad
    · exact build_b6 sb db sp dp f pad a la ca zs tag w hr hL hna hb hz hl1 hl2 hb1 hb2 hv1 hv2 hsp hdp hf hpad
end Go.Proofs.Ythionipmohbnhaa
namespace Go.Proofs.Ythionipmohbnhaa
open Go.RowKit
def sV (u : Nat) : List Nat := kS u ++ List.replicate 12 0
def dV : List Nat := kD ++ List.replicate 12 0
theorem sV_len (u : Nat) : (sV u).length = 16 := rfl
theorem dV_len : dV.length = 16 := rfl
theorem sV_lt (u : Nat) : ∀ c ∈ sV u, c < 256 := by
  intro c hc
  rcases List.mem_append.1 hc with h | h
  · simp [kS] at h; omega
  · rw [List.eq_of_mem_replicate h]; omega
theorem dV_lt : ∀ c ∈ dV, c < 256 := by decide
theorem sV_v (v : Bool) (u : Nat) : vldA v (sV u) = true := by
  unfold vldA sV kS
  simp only [Bool.or_eq_true]
  right
  rfl
theorem dV_v (v : Bool) : vldA v dV = true := by cases v <;> rfl
def pr (udp : Bool) : Nat := if udp then 17 else 6
theorem pr_or (udp : Bool) : pr udp = 6 ∨ pr udp = 17 := by cases udp; exact .inl rfl; exact .inr rfl
def flow (u : Nat) (v udp : Bool) : Array Value := kcells (pr udp) (cellsA v (sV u)) (cellsA v dV) (1000 + u % 50000) 80
theorem flow_size (u : Nat) (v udp : Bool) : (flow u v udp).size = 37 := kcells_size _ _ _ _ _ (by rw [cellsA_size, sV_len]) (by rw [cellsA_size, dV_len])
theorem flow_all (u : Nat) (v udp : Bool) : (flow u v udp).all (·.oneCell') = true := kcells_all _ _ _ _ _ (cellsA_all _ _) (cellsA_all _ _)
theorem flow_any (n : Int) (v udp : Bool) (w : World) : Calls Try.prog 12 #[.int .i64 n, .bool v, .bool udp] w fun e w' => e = .returned (.agg (flow (n % 1073741824).toNat v udp)) ∧ Below w.heap.size w w' := key_any n v udp w
def fB8 (u : Nat) (v udp : Bool) (f : Nat) (data : List Nat) (tag bare : Bool) (R : List Nat) : List Nat := frR v (sV u) dV (pr udp) (1000 + u % 50000) 80 f data tag bare R
theorem fB8_told (u : Nat) (v udp : Bool) (f : Nat) (data : List Nat) (tag bare : Bool) (R : List Nat) (hl : data.length ≤ 1500) : Told8 v (sV u) dV (pr udp) (1000 + u % 50000) 80 f data tag bare R (fB8 u v udp f data tag bare R) :=
  told8 _ _ _ _ _ _ _ _ _ _ _ (pr_or udp) (sV_len u) dV_len (sV_v v u) (dV_v v) hl (by omega) (by omega)
theorem fB8_any (u : Nat) (v udp : Bool) (f : Nat) (pad : Nat) (a : Option Addr) (la ca : Nat) (zs : List Nat) (tag bare : Bool) (w : World) (hr : Rd w (.slice a la ca) (nus .u8 zs)) (hL : zs.length = la) (hna : a = none → ca = 0) (hb : ∀ c ∈ zs, c < 256) (hz : la ≤ 1500) (hf : f < 256) (hpad : pad ≤ 100) :
    Calls Try.prog 14 #[.agg (flow u v udp), .int .u8 (f : Int), .slice a la ca, .bool tag, .bool bare, .int .i64 (pad : Int)] w fun e w' => ∃ g c, e = .returned (.slice (some ⟨g, 0, none⟩) (fB8 u v udp f zs tag bare (List.replicate pad 0)).length c) ∧
      w'.ownsRow w.heap.size 5 1 (.slice (some ⟨g, 0, none⟩) (fB8 u v udp f zs tag bare (List.replicate pad 0)).length c) (fB8 u v udp f zs tag bare (List.replicate pad 0)).length (nus .u8 (fB8 u v udp f zs tag bare (List.replicate pad 0))) ∧ Below w.heap.size w w' := by
  refine (build_any (pr udp) (pr_or udp) v (sV u) dV (1000 + u % 50000) 80 f pad a la ca zs tag bare w hr hL hna hb (by omega) (sV_len u) dV_len (sV_lt u) dV_lt (sV_v v u) (dV_v v) (by omega) (by omega) hf hpad).mono ?_
  rintro e w' ⟨x, n, rfl, ho, hB⟩
  have e0 : frmB v (sV u) dV (pr udp) (1000 + u % 50000) 80 f zs tag bare pad = fB8 u v udp f zs tag bare (List.replicate pad 0) := frmB_R _ _ _ _ _ _ _ _ _ _ _
  rw [e0] at ho
  have hlen : (fB8 u v udp f zs tag bare (List.replicate pad 0)).length = n := by have := ho.1; rw [nus_length] at this; omega
  have ht := (fB8_told u v udp f zs tag bare (List.replicate pad 0) (by omega)).len
  subst hlen
  obtain ⟨g, c, rfl, -, -, -, -⟩ := own_at ho (by rw [ht]; unfold hN; split <;> omega)
  exact ⟨g, c, rfl, ho, hB⟩
end Go.Proofs.Ythionipmohbnhaa
namespace Go.Proofs.Ythionipmohbnhaa
open Go.RowKit
def B9 : List Nat := fB8 5 false false 0 [97, 98] false false [0, 0]
def D9 (m : Nat) : List Nat := dB m ++ List.replicate 12 0
def O9 : List Nat := to9 B9 (D9 1) 8001
theorem B9_len : B9.length = 58 := by kernel_rfl
theorem B9_lt : ∀ c ∈ B9, c < 256 := by decide +kernel
theorem O9_len : O9.length = 58 := by kernel_rfl
theorem O9_lt : ∀ c ∈ O9, c < 256 := by decide +kernel
theorem O9_rr : rr O9 = 0 := by kernel_rfl
theorem O9_gf : gf O9 = true := by kernel_rfl
theorem O9_vw : vw O9 = vcells false 14 34 56 (kcells 6 (cellsA false (sV 5)) (cellsA false (D9 1)) 1005 8001) 0 := by kernel_rfl
theorem B9_ok : ok9 B9 false (D9 1) = true := by kernel_rfl
theorem B9_six : ok9 B9 true (D9 1) = false := by kernel_rfl
theorem B9_cut : ok9 (B9.take 30) false (D9 1) = false := by kernel_rfl
theorem B9_ok2 : ok9 B9 false dV = true := by kernel_rfl
theorem B9_back : to9 B9 dV 0 = B9 := by kernel_rfl
end Go.Proofs.Ythionipmohbnhaa
namespace Go.Proofs.Ythionipmohbnhaa
open Go.RowKit
def str (zs : List Nat) : ByteArray := ⟨(zs.map UInt8.ofNat).toArray⟩
theorem strOfNums_nat (zs : List Nat) : strOfNums (zs.map fun n : Nat => (n : Int)) = str zs := by
  unfold strOfNums str
  rw [List.map_map]
  rfl
theorem conv_rd {P : Program} (w : World) (src dst e : TypeId) (hs : P.underlying src = some (.slice e)) (he : P.underlying e = some (.int .u8)) (hd : P.underlying dst = some .string) (v : Value) (zs : List Nat) (h : Rd w v (nus .u8 zs)) :
    (convert src dst v).run P w = .ok (.string (str zs)) w := by
  obtain ⟨a, cap, rfl, _, _, hx⟩ := h
  rw [nus_length] at hx ⊢
  rw [← strOfNums_nat]
  rcases hx with hx | ⟨b, off, rfl, _, hc⟩
  · obtain rfl := (nus_nil _ _).1 hx
    cases a with
    | none => exact run_convert_bytes_nil w src e hs he _ _ dst hd
    | some ad =>
      rw [run_convert_bytes_string w src dst e _ _ _ hs he hd, List.length_nil, run_bytesToString w ad 0 cap [] (by simp [loadCells, go_sem])]
      rfl
  · exact run_convert_bytes_arg w src e hs he b off zs.length cap (zs.map fun n : Nat => (n : Int)) (by simp) (fun i hi => by
      rw [hc i hi, nus_get _ _ _ hi]
      simp [List.getD_eq_getElem?_getD, List.getElem?_eq_getElem hi]) dst hd
end Go.Proofs.Ythionipmohbnhaa
namespace Go.Proofs.Ythionipmohbnhaa
open Go.RowKit
theorem dif9 : difs [1, 2, 3] [1, 5] = [1, 2] := by kernel_rfl
theorem built_dip (D : Array Value) (hD : D.size = 17) : Try.prog.built 28 [(0, .agg D)] = some (dcells D 0) := by
  obtain ⟨y0, y1, y2, y3, y4, y5, y6, y7, y8, y9, y10, y11, y12, y13, y14, y15, y16, rfl⟩ := arr17 D hD
  kernel_rfl
theorem dip_all (D : List Nat) (v : Bool) (p : Nat) : (dcells (cellsA v D) p).all (·.oneCell') = true := dcells_all _ _ (cellsA_all _ _)
set_option maxRecDepth 100000 in
set_option maxHeartbeats 4000000 in
theorem awake_any (w : World) : Calls Try.prog 7 #[] w fun e w' => e = .returned (.bool true) ∧ Below w.heap.size w w' := by
  have CK := Lib.hid (fun W => flow_any 5 false false W)
  rw [show ((5 : Int) % 1073741824).toNat = 5 from by decide] at CK
  have CB := Lib.hid (show ∀ W z, Rd W (.slice (some z) 2 2) (nus .u8 [97, 98]) → Calls Try.prog 14 #[.agg (flow 5 false false), .int .u8 0, .slice (some z) 2 2, .bool false, .bool false, .int .i64 2] W fun e w' => ∃ g c, e = .returned (.slice (some ⟨g, 0, none⟩) 58 c) ∧ Rd w' (.slice (some ⟨g, 0, none⟩) 58 c) (nus .u8 B9) ∧ Below W.heap.size W w' from fun W z h => by
    refine (fB8_any 5 false false 0 2 (some z) 2 2 [97, 98] false false W h rfl (by intro e; cases e) (by decide) (by omega) (by omega) (by omega)).mono ?_
    rintro e w' ⟨g, c, rfl, ho, hB⟩
    rw [show fB8 5 false false 0 [97, 98] false false (List.replicate 2 0) = B9 from rfl, B9_len] at ho
    exact ⟨g, c, by rw [show fB8 5 false false 0 [97, 98] false false (List.replicate 2 0) = B9 from rfl, B9_len], Rd.own ho, hB⟩)
  have CD := Lib.hid (fun W => dip_any 1 false W)
  rw [show dcells (cellsA false (dB ((1 : Int) % 200).toNat ++ List.replicate 12 0)) (8000 + ((1 : Int) % 1000).toNat) = dcells (cellsA false (D9 1)) 8001 from by rfl] at CD
  have CX := Lib.hid (fun W => dip_any 1 true W)
  rw [show dcells (cellsA true (dB ((1 : Int) % 200).toNat ++ List.replicate 12 0)) (8000 + ((1 : Int) % 1000).toNat) = dcells (cellsA true (D9 1)) 8001 from by rfl] at CX
  have dl : (D9 1).length = 16 := rfl
  have db : ∀ c ∈ D9 1, c < 256 := by decide
  have C1 := Lib.hid (fun W z (h : Rd W z (nus .u8 B9)) => to_any z B9 false (D9 1) 8001 W h B9_lt (by rw [B9_len]; omega) dl db (by omega))
  have C2 := Lib.hid (fun W z (h : Rd W z (nus .u8 B9)) => to_any z B9 true (D9 1) 8001 W h B9_lt (by rw [B9_len]; omega) dl db (by omega))
  have C3 := Lib.hid (fun W z (h : Rd W z (nus .u8 (B9.take 30))) => to_any z (B9.take 30) false (D9 1) 8001 W h (fun c hc => B9_lt c (List.mem_of_mem_take hc)) (by rw [List.length_take, B9_len]; omega) dl db (by omega))
  have C4 := Lib.hid (fun W z (h : Rd W z (nus .u8 B9)) => to_any z B9 false dV 0 W h B9_lt (by rw [B9_len]; omega) dV_len dV_lt (by omega))
  unfold tof at C1 C2 C3 C4
  rw [if_pos B9_ok, B9_ok, show to9 B9 (D9 1) 8001 = O9 from rfl] at C1
  rw [if_neg (by rw [B9_six]; decide), B9_six] at C2
  rw [if_neg (by rw [B9_cut]; decide), B9_cut] at C3
  rw [if_pos B9_ok2, B9_ok2, B9_back] at C4
  have CR := Lib.hid (fun W z (h : Rd W z (nus .u8 O9)) => rframe_any z O9 W h O9_lt (by rw [O9_len]; omega))
  rw [O9_rr] at CR
  have CG := Lib.hid (fun W z (h : Rd W z (nus .u8 O9)) => rfgood_any z O9 W h O9_lt (by rw [O9_len]; omega))
  rw [O9_gf] at CG
  have CF := Lib.hid (fun W x y (h1 : Rd W x (nus .u8 [1, 2, 3])) (h2 : Rd W y (nus .u8 [1, 5])) => differs_any x y [1, 2, 3] [1, 5] W h1 h2 (by decide) (by decide))
  rw [dif9] at CF
  have CI := Lib.hid (fun W x y (h1 : Rd W x (nus .i64 [1, 2])) (h2 : Rd W y (nus .i64 [1, 2])) => ints_any x y [1, 2] W h1 h2 (by decide))
  have QA := fun W => (eq_same false 172 16 0 2 0 0 0 0 0 0 0 0 0 0 0 0 (by decide) W)
  have QA := fun W => (show (Op.equalIn 10000 25 (.agg (cellsA false (D9 1))) (.agg (cellsA false (D9 1)))).run Try.prog W = .ok true W from QA W)
  have sA : (cellsA false (D9 1)).size = 17 := rfl
  have sV5 : (cellsA false dV).size = 17 := rfl
  have BD := Lib.hid (built_dip (cellsA false dV) sV5)
  have sd := dcells_size (cellsA false (D9 1)) 8001 sA
  have Ad := Lib.hid (dip_all (D9 1) false 8001)
  have sd2 := dcells_size (cellsA true (D9 1)) 8001 rfl
  have Ad2 := Lib.hid (dip_all (D9 1) true 8001)
  obtain ⟨d17, dpart⟩ := dip_get (cellsA false (D9 1)) 8001 sA
  have zk := flow_size 5 false false
  have Ak := Lib.hid (flow_all 5 false false)
  have PK := Lib.hid (show ((flow 5 false false).toList.drop 18).take (cellsA false dV).toList.length = (cellsA false dV).toList from rfl)
  have hvw := O9_vw
  have zv := vw_size O9
  have Av := Lib.hid (vw_all O9)
  have PV := Lib.hid (show ((vw O9).toList.drop 22).take (cellsA false (D9 1)).toList.length = (cellsA false (D9 1)).toList from by rw [hvw]; rfl)
  have v40 := Lib.hid (show (vw O9)[40]? = some (.int .u16 8001) from by rw [hvw]; rfl)
  have LB := Lib.hid B9_len
  generalize flow 5 false false = kc at *
  generalize vw O9 = VA at *
  clear hvw
  have Zk := Lib.hid (i42.trans (congrArg some zk.symm))
  have Yk : Hid (kc.size = Array.size (ZcK : Array Value)) := zk
  have IV := Lib.hid (i24.trans (congrArg some (show (17 : Nat) = (cellsA false dV).toList.length from rfl)))
  have IA := Lib.hid (i24.trans (congrArg some (show (17 : Nat) = (cellsA false (D9 1)).toList.length from rfl)))
  have Zv := Lib.hid (i72.trans (congrArg some zv.symm))
  have Yv : Hid (VA.size = Array.size (ZcV : Array Value)) := zv
  have Zd := Lib.hid (i45.trans (congrArg some sd.symm))
  have Yd : Hid ((dcells (cellsA false (D9 1)) 8001).size = Array.size (ZcD : Array Value)) := sd
  have d17 := Lib.hid d17
  have PD := Lib.hid dpart
  have t1 : ((8001 : Int) == 8001) = true := rfl
  have kcv := fun (w : World) (C : Array Value) (n c : Nat) => Lib.run_convert_bytes_const (P := Try.prog) w 22 5 C n c Try.underlying22 Try.underlying5
  have K := Lib.hid (Below.refl w.heap.size w)
  clear zk zv sd sd2 dl db dpart sA sV5
  generalize dcells (cellsA false (D9 1)) 8001 = dc at *
  generalize dcells (cellsA true (D9 1)) 8001 = dx at *
  generalize dcells (cellsA false dV) 0 = ds at *
  generalize cellsA false (D9 1) = DA at *
  generalize cellsA false dV = DV at *
  go_enter Try.func7, Try.ntmps7
  go_wp2_with fail
  refine (CK.out _).mono ?_
  rintro e V1 ⟨rfl, hy⟩
  replace K := Lib.hid (K.out.trans (hy.mono K.out.size))
  clear hy
  go_wp2_with (((with_reducible refine wpList_blk_store (op := ⟨none, .store 37 (.tmp 1) (.tmp 14), _, _, _, _⟩) ?sg1 37 (.tmp 1) (.tmp 14) ?so1 (V1.heap.size) kc ?sx1 ?sy1 (Blk.new V1 37 ZcK) Yk.out Zk.out Ak.out ?_); (case sg1 => rfl); (case so1 => rfl); (case sx1 => rfl); (case sy1 => rfl)))
  intro V2 hA hF hB
  have hy := ((Below.refl V1.heap.size V1).alloc (Nat.le_refl _) (.cells ZcK 37)).trans (hB _ (Nat.le_refl _))
  replace K := Lib.hid (K.out.trans (hy.mono K.out.size))
  have NK := Lib.hid hA
  clear hA hF hB hy
  have hal := (Below.refl V2.heap.size V2).alloc (Nat.le_refl _) (.cells #[Value.int .u8 97, .int .u8 98] 5 (2, 2 + 1))
  have RL := Lib.hid (show Rd (V2.alloc (.cells #[Value.int .u8 97, .int .u8 98] 5 (2, 2 + 1))) (.slice (some ⟨V2.heap.size, 0, none⟩) 2 2) (nus .u8 [97, 98]) from rd_lit V2 .u8 5 [97, 98] 2 (2, 3) rfl (by simp [maxLen]))
  have L2 : (loadVar 37 ⟨V1.heap.size, 0, none⟩).run Try.prog V2 = .ok (.agg kc) V2 := run_blk_load (P := Try.prog) 37 (V1.heap.size) _ NK.out Try.underlying37 rfl Zk.out
  replace L2 := Lib.hid L2
  go_wp2_with (((with_reducible refine wpList_load_want (op := ⟨some 15, .load 37 (.tmp 1), _, _, _, _⟩) ?wg2 37 (.tmp 1) ?wo2 ⟨V1.heap.size, 0, none⟩ ?wx2 (.agg kc) L2.out ?_); (case wg2 => rfl); (case wo2 => rfl); (case wx2 => rfl)))
  clear L2
  replace K := Lib.hid (K.out.trans (hal.mono K.out.size))
  replace NK := Lib.hid (NK.out.below hal NK.out.lt)
  clear hal kcv
  refine (CB.out _ _ RL.out).mono ?_
  rintro e V3 ⟨gb, cb, rfl, rb, hy⟩
  replace K := Lib.hid (K.out.trans (hy.mono K.out.size))
  replace NK := Lib.hid (NK.out.below hy NK.out.lt)
  have R0 := Lib.hid rb
  have RC := Lib.hid (rb.front 30 (by rw [LB.out]; omega))
  have h30 : (30 : Int) ≤ (cb : Int) := by
    obtain ⟨_, _, e1, h1, -, -⟩ := rb
    simp only [Value.slice.injEq] at e1
    obtain ⟨-, e2, rfl⟩ := e1
    rw [nus_length, LB.out] at h1
    omega
  clear rb hy RL CB CK
  go_wp2_with fail
  refine (CD.out _).mono ?_
  rintro e V4 ⟨rfl, hy⟩
  replace K := Lib.hid (K.out.trans (hy.mono K.out.size))
  replace NK := Lib.hid (NK.out.below hy NK.out.lt)
  replace R0 := Lib.hid (R0.out.below hy)
  replace RC := Lib.hid (RC.out.below hy)
  clear hy
  go_wp2_with (((with_reducible refine wpList_blk_store (op := ⟨none, .store 28 (.tmp 3) (.tmp 19), _, _, _, _⟩) ?sg3 28 (.tmp 3) (.tmp 19) ?so3 (V4.heap.size) dc ?sx3 ?sy3 (Blk.new V4 28 ZcD) Yd.out Zd.out Ad.out ?_); (case sg3 => rfl); (case so3 => rfl); (case sx3 => rfl); (case sy3 => rfl)))
  have qNKND : V1.heap.size < V4.heap.size := NK.out.lt
  intro V5 hA hF hB
  have hy := ((Below.refl V4.heap.size V4).alloc (Nat.le_refl _) (.cells ZcD 28)).trans (hB _ (Nat.le_refl _))
  replace K := Lib.hid (K.out.trans (hy.mono K.out.size))
  replace NK := Lib.hid (NK.out.below hy NK.out.lt)
  replace R0 := Lib.hid (R0.out.below hy)
  replace RC := Lib.hid (RC.out.below hy)
  have ND := Lib.hid hA
  clear hA hF hB hy
  have L4 : (loadVar 28 ⟨V4.heap.size, 0, none⟩).run Try.prog V5 = .ok (.agg dc) V5 := run_blk_load (P := Try.prog) 28 (V4.heap.size) _ ND.out Try.underlying28 rfl Zd.out
  replace L4 := Lib.hid L4
  go_wp2_with (((with_reducible refine wpList_load_want (op := ⟨some 22, .load 28 (.tmp 3), _, _, _, _⟩) ?wg4 28 (.tmp 3) ?wo4 ⟨V4.heap.size, 0, none⟩ ?wx4 (.agg dc) L4.out ?_); (case wg4 => rfl); (case wo4 => rfl); (case wx4 => rfl)))
  clear L4
  refine (C1.out _ _ R0.out).mono ?_
  rintro e V6 ⟨x1, rfl, ro, hy⟩
  replace K := Lib.hid (K.out.trans (hy.mono K.out.size))
  replace NK := Lib.hid (NK.out.below hy NK.out.lt)
  replace R0 := Lib.hid (R0.out.below hy)
  replace RC := Lib.hid (RC.out.below hy)
  replace ND := Lib.hid (ND.out.below hy ND.out.lt)
  have RO := Lib.hid (ro)
  clear ro
  clear hy
  go_wp2_with fail
  refine (CR.out _ _ RO.out).mono ?_
  rintro e V7 ⟨rfl, hy⟩
  replace K := Lib.hid (K.out.trans (hy.mono K.out.size))
  replace NK := Lib.hid (NK.out.below hy NK.out.lt)
  replace R0 := Lib.hid (R0.out.below hy)
  replace RC := Lib.hid (RC.out.below hy)
  replace ND := Lib.hid (ND.out.below hy ND.out.lt)
  replace RO := Lib.hid (RO.out.below hy)
  clear hy
  go_wp2_with (((with_reducible refine wpList_blk_store (op := ⟨none, .store 42 (.tmp 6) (.tmp 29), _, _, _, _⟩) ?sg5 42 (.tmp 6) (.tmp 29) ?so5 (V7.heap.size) VA ?sx5 ?sy5 (Blk.new V7 42 ZcV) Yv.out Zv.out Av.out ?_); (case sg5 => rfl); (case so5 => rfl); (case sx5 => rfl); (case sy5 => rfl)))
  have qNKNV : V1.heap.size < V7.heap.size := NK.out.lt
  have qNDNV : V4.heap.size < V7.heap.size := ND.out.lt
  intro V8 hA hF hB
  have hy := ((Below.refl V7.heap.size V7).alloc (Nat.le_refl _) (.cells ZcV 42)).trans (hB _ (Nat.le_refl _))
  replace K := Lib.hid (K.out.trans (hy.mono K.out.size))
  replace NK := Lib.hid (NK.out.below hy NK.out.lt)
  replace R0 := Lib.hid (R0.out.below hy)
  replace RC := Lib.hid (RC.out.below hy)
  replace ND := Lib.hid (ND.out.below hy ND.out.lt)
  replace RO := Lib.hid (RO.out.below hy)
  have NV := Lib.hid hA
  clear hA hF hB hy
  go_wp2_with fail
  refine (CX.out _).mono ?_
  rintro e V9 ⟨rfl, hy⟩
  replace K := Lib.hid (K.out.trans (hy.mono K.out.size))
  replace NK := Lib.hid (NK.out.below hy NK.out.lt)
  replace R0 := Lib.hid (R0.out.below hy)
  replace RC := Lib.hid (RC.out.below hy)
  replace ND := Lib.hid (ND.out.below hy ND.out.lt)
  replace RO := Lib.hid (RO.out.below hy)
  replace NV := Lib.hid (NV.out.below hy NV.out.lt)
  clear hy
  go_wp2_with fail
  refine (C2.out _ _ R0.out).mono ?_
  rintro e V10 ⟨x2, rfl, -, hy⟩
  replace K := Lib.hid (K.out.trans (hy.mono K.out.size))
  replace NK := Lib.hid (NK.out.below hy NK.out.lt)
  replace R0 := Lib.hid (R0.out.below hy)
  replace RC := Lib.hid (RC.out.below hy)
  replace ND := Lib.hid (ND.out.below hy ND.out.lt)
  replace RO := Lib.hid (RO.out.below hy)
  replace NV := Lib.hid (NV.out.below hy NV.out.lt)
  clear hy
  go_wp2_with fail
  refine wp_region_held (S := (fun w' : World => Below (V10.heap.size) V10 w')) (by kernel_rfl) ?_
  change wpAnyH _ _ _ _ _ _ _ _ V10.drew
  have hy : Below V10.heap.size V10 V10.drew := (Below.refl _ _).drew
  have hE0 : Below (V10.heap.size) V10 V10.drew := (Below.refl _ _).drew
  clear hy
  generalize V10.drew = Y7x0 at hE0  ⊢
  have E0 := Lib.hid hE0
  clear hE0
  refine tkA 0 (?_) ?_ E0.out ?_
  rotate_left
  · (intro w1 hS; go_simp; try with_reducible rfl)
  simp only [Act.put, tS1, tS2, tS3]
  refine tkA 1 (?_) ?_ E0.out ?_
  rotate_left
  · (intro w1 hS; have hW := hS; have q := h30; clear hW hS; go_simp; try with_reducible rfl)
  simp only [Act.put, tS1, tS2, tS3]
  refine tkA 2 (.agg dc) ?_ E0.out ?_
  · (intro w1 hS; have hW := hS; exact exec_load 28 (.tmp 3) rfl _ rfl _ (run_blk_load (P := Try.prog) 28 (V4.heap.size) _ (ND.out.below hW ND.out.lt) Try.underlying28 rfl Zd.out))
  simp only [Act.put, tS1, tS2, tS3]
  refine tkO 3 (fun KK hK => ?_)
  go_simp
  refine (C3.out _ _ (RC.out.below E0.out)).mono ?_
  rintro e Y7x1 ⟨x3, rfl, -, hy⟩
  have E1 := Lib.hid (E0.out.trans (hy.mono E0.out.size))
  have C1 := Lib.hid E1.out
  clear hy E0
  refine hK.out _ _ C1.out (fun _ => ?_)
  clear hK KK
  refine wpAnyH_mono (S' := (fun w' : World => Below Y7x1.heap.size Y7x1 w')) (fun w1 h => C1.out.trans (h.mono C1.out.size)) _ _ _ _ ?_
  clear C1
  try simp only [Act.put, tS1, tS2, tS3]
  refine tkA 4 (?_) ?_ (Below.refl _ _) ?_
  rotate_left
  · (intro w1 hS; go_simp; try with_reducible rfl)
  simp only [Act.put, tS1, tS2, tS3]
  refine tkA 5 (?_) ?_ (Below.refl _ _) ?_
  rotate_left
  · (intro w1 hS; go_simp; try with_reducible rfl)
  simp only [Act.put, tS1, tS2, tS3]
  refine tkA 7 (?_) ?_ (Below.refl _ _) ?_
  rotate_left
  · (intro w1 hS; go_simp; try with_reducible rfl)
  simp only [Act.put, tS1, tS2, tS3]
  refine tkA 6 (?_) ?_ (Below.refl _ _) ?_
  rotate_left
  · (intro w1 hS; go_simp; try with_reducible rfl)
  simp only [Act.put, tS1, tS2, tS3]
  refine tkA 8 (?_) ?_ (Below.refl _ _) ?_
  rotate_left
  · (intro w1 hS; go_simp; try with_reducible rfl)
  simp only [Act.put, tS1, tS2, tS3]
  refine wpAnyH_done (by kernel_rfl) ?_ _
  have hy := E1.out
  replace K := Lib.hid (K.out.trans (hy.mono K.out.size))
  replace NK := Lib.hid (NK.out.below hy NK.out.lt)
  replace R0 := Lib.hid (R0.out.below hy)
  replace RC := Lib.hid (RC.out.below hy)
  replace ND := Lib.hid (ND.out.below hy ND.out.lt)
  replace RO := Lib.hid (RO.out.below hy)
  replace NV := Lib.hid (NV.out.below hy NV.out.lt)
  clear hy E1
  clear C1 C2 C3 CR CX CD RC h30
  have L6 : (loadVar 25 ⟨V1.heap.size, 18, none⟩).run Try.prog Y7x1 = .ok (.agg DV) Y7x1 := by have h := run_part_load (P := Try.prog) 25 18 DV.toList _ NK.out PK.out Try.underlying25 rfl IV.out; rwa [Array.toArray_toList] at h
  replace L6 := Lib.hid L6
  go_wp2_with (first | ((with_reducible refine wpList_load_want (op := ⟨some 47, .load 25 (.tmp 46), _, _, _, _⟩) ?wg6 25 (.tmp 46) ?wo6 ⟨V1.heap.size, 18, none⟩ ?wx6 (.agg DV) L6.out ?_); (case wg6 => rfl); (case wo6 => rfl); (case wx6 => rfl)) | ((with_reducible refine wpList_built2 (op := ⟨some 48, .build 28 #[(0, Operand.tmp 47)], _, _, _, _⟩) ?wg48 28 #[(0, Operand.tmp 47)] ?wo48 #[(0, .agg DV)] ?wv48 ds ?wf48 ?_); (case wg48 => rfl); (case wo48 => rfl); (case wv48 => kernel_rfl); (case wf48 => exact BD.out)))
  clear L6
  refine (C4.out _ _ R0.out).mono ?_
  rintro e V11 ⟨x4, rfl, rs, hy⟩
  replace K := Lib.hid (K.out.trans (hy.mono K.out.size))
  replace NK := Lib.hid (NK.out.below hy NK.out.lt)
  replace R0 := Lib.hid (R0.out.below hy)
  replace ND := Lib.hid (ND.out.below hy ND.out.lt)
  replace RO := Lib.hid (RO.out.below hy)
  replace NV := Lib.hid (NV.out.below hy NV.out.lt)
  have RS := Lib.hid (rs)
  clear rs
  clear hy
  clear C4
  have L7 : (loadVar 25 ⟨V7.heap.size, 22, none⟩).run Try.prog V11 = .ok (.agg DA) V11 := by have h := run_part_load (P := Try.prog) 25 22 DA.toList _ NV.out PV.out Try.underlying25 rfl IA.out; rwa [Array.toArray_toList] at h
  replace L7 := Lib.hid L7
  have L8 : (loadVar 25 ⟨V4.heap.size, 0, none⟩).run Try.prog V11 = .ok (.agg DA) V11 := by have h := run_part_load (P := Try.prog) 25 0 DA.toList _ ND.out PD.out Try.underlying25 rfl IA.out; rwa [Array.toArray_toList] at h
  replace L8 := Lib.hid L8
  have L9 := (NV.out.cell 40).trans v40.out
  have L10 := (ND.out.cell 17).trans d17.out
  go_wp2_with (first | ((with_reducible refine wpList_load_want (op := ⟨some 60, .load 25 (.tmp 59), _, _, _, _⟩) ?wg7 25 (.tmp 59) ?wo7 ⟨V7.heap.size, 22, none⟩ ?wx7 (.agg DA) L7.out ?_); (case wg7 => rfl); (case wo7 => rfl); (case wx7 => rfl)) | ((with_reducible refine wpList_load_want (op := ⟨some 62, .load 25 (.tmp 61), _, _, _, _⟩) ?wg8 25 (.tmp 61) ?wo8 ⟨V4.heap.size, 0, none⟩ ?wx8 (.agg DA) L8.out ?_); (case wg8 => rfl); (case wo8 => rfl); (case wx8 => rfl)))
  clear L7 L8 L9 L10
  refine (CG.out _ _ RO.out).mono ?_
  rintro e V12 ⟨rfl, hy⟩
  replace K := Lib.hid (K.out.trans (hy.mono K.out.size))
  replace NK := Lib.hid (NK.out.below hy NK.out.lt)
  replace R0 := Lib.hid (R0.out.below hy)
  replace ND := Lib.hid (ND.out.below hy ND.out.lt)
  replace RO := Lib.hid (RO.out.below hy)
  replace NV := Lib.hid (NV.out.below hy NV.out.lt)
  replace RS := Lib.hid (RS.out.below hy)
  clear hy
  have cv1 := conv_rd V12 22 9 5 Try.underlying22 Try.underlying5 Try.underlying9 _ _ RS.out
  have cv2 := conv_rd V12 22 9 5 Try.underlying22 Try.underlying5 Try.underlying9 _ _ R0.out
  go_wp2_with fail
  have h1 := (Below.refl V12.heap.size V12).alloc (Nat.le_refl _) (.cells #[Value.int .u8 1, .int .u8 2, .int .u8 3] 5)
  have r1 := rd_lit V12 .u8 5 [1, 2, 3] 3 (0, 0) rfl (by simp [maxLen])
  have h2 := (Below.refl (V12.alloc (.cells #[Value.int .u8 1, .int .u8 2, .int .u8 3] 5)).heap.size (V12.alloc (.cells #[Value.int .u8 1, .int .u8 2, .int .u8 3] 5))).alloc (Nat.le_refl _) (.cells #[Value.int .u8 1, .int .u8 5] 5)
  have r2 := rd_lit (V12.alloc (.cells #[Value.int .u8 1, .int .u8 2, .int .u8 3] 5)) .u8 5 [1, 5] 2 (0, 0) rfl (by simp [maxLen])
  rw [World.size_alloc] at r2
  have L1 := Lib.hid (show Rd (V12.alloc (.cells #[Value.int .u8 1, .int .u8 2, .int .u8 3] 5)) (.slice (some ⟨V12.heap.size, 0, none⟩) 3 3) (nus .u8 [1, 2, 3]) from r1)
  have L2 := Lib.hid (show Rd ((V12.alloc (.cells #[Value.int .u8 1, .int .u8 2, .int .u8 3] 5)).alloc (.cells #[Value.int .u8 1, .int .u8 5] 5)) (.slice (some ⟨V12.heap.size + 1, 0, none⟩) 2 2) (nus .u8 [1, 5]) from r2)
  replace L1 := Lib.hid (L1.out.below h2)
  replace K := Lib.hid ((K.out.trans (h1.mono K.out.size)).trans (h2.mono (Nat.le_trans K.out.size h1.size)))
  clear h1 h2 r1 r2 cv1 cv2
  refine (CF.out _ _ _ L1.out L2.out).mono ?_
  rintro e V13 ⟨xd, rfl, od, hy⟩
  replace K := Lib.hid (K.out.trans (hy.mono K.out.size))
  have RD := Lib.hid (Rd.own od)
  clear od hy L1 L2 CF
  go_wp2_with fail
  have h1 := (Below.refl V13.heap.size V13).alloc (Nat.le_refl _) (.cells #[Value.int .i64 1, .int .i64 2] 3)
  have r1 := rd_lit V13 .i64 3 [1, 2] 2 (0, 0) rfl (by simp [maxLen])
  have L1 := Lib.hid (show Rd (V13.alloc (.cells #[Value.int .i64 1, .int .i64 2] 3)) (.slice (some ⟨V13.heap.size, 0, none⟩) 2 2) (nus .i64 [1, 2]) from r1)
  replace RD := Lib.hid (RD.out.below h1)
  replace K := Lib.hid (K.out.trans (h1.mono K.out.size))
  clear h1 r1
  refine (CI.out _ _ _ RD.out L1.out).mono ?_
  rintro e V14 ⟨rfl, hy⟩
  replace K := Lib.hid (K.out.trans (hy.mono K.out.size))
  clear hy RD L1 CI
  go_wp2
  go_ret
  exact ⟨rfl, K.out⟩
end Go.Proofs.Ythionipmohbnhaa
namespace Go.Proofs.Ythionipmohbnhaa
open Go.RowKit
def izs (zs : List Int) : List Value := zs.map (.int .i64)
def bt (A : List Nat) (T : List Bool) : List Nat := List.zipWith (fun a t => if t then 255 - a else a) A T
theorem bt_len (A : List Nat) (T : List Bool) (h : T.length = A.length) : (bt A T).length = A.length := by simp [bt, h]
theorem bt_get (A : List Nat) (T : List Bool) (h : T.length = A.length) (i : Nat) (hi : i < A.length) : (bt A T).getD i 0 = if T.getD i false then 255 - A.getD i 0 else A.getD i 0 := by
  simp [bt, List.getD_eq_getElem?_getD, List.getElem?_zipWith, List.getElem?_eq_getElem hi, List.getElem?_eq_getElem (show i < T.length by omega)]
theorem bt_none (A : List Nat) : bt A (List.replicate A.length false) = A := by
  refine ext_getD _ _ 0 (by simp [bt]) fun i hi => ?_
  have hi : i < A.length := by simpa [bt] using hi
  rw [bt_get _ _ (by simp) i hi, List.getD_eq_getElem?_getD, List.getElem?_replicate, if_pos hi]; rfl
theorem bt_set (A : List Nat) (T : List Bool) (h : T.length = A.length) (k : Nat) (hk : k < A.length) : (bt A T).set k (255 - A.getD k 0) = bt A (T.set k true) := by
  refine ext_getD _ _ 0 (by simp [bt]) fun i hi => ?_
  have hi : i < A.length := by simpa [bt, h] using hi
  rw [bt_get _ _ (by simp [h]) i hi]
  by_cases hik : k = i
  · subst hik
    simp [List.getD_eq_getElem?_getD, bt, h, hk]
  · have e1 : ((bt A T).set k (255 - A.getD k 0)).getD i 0 = (bt A T).getD i 0 := by simp [List.getD_eq_getElem?_getD, hik]
    have e2 : (T.set k true).getD i false = T.getD i false := by simp [List.getD_eq_getElem?_getD, hik]
    rw [e1, e2, bt_get A T h i hi]
def wnt (T : List Bool) (c i : Nat) : List Nat := (List.range i).filter fun j => T.getD j false || decide (c ≤ j)
theorem wnt_yes (T : List Bool) (c i : Nat) (h : (T.getD i false || decide (c ≤ i)) = true) : wnt T c (i + 1) = wnt T c i ++ [i] := by
  unfold wnt; rw [List.range_succ, List.filter_append]; simp only [List.filter_cons, h, if_true, List.filter_nil]
theorem wnt_no (T : List Bool) (c i : Nat) (h : (T.getD i false || decide (c ≤ i)) = false) : wnt T c (i + 1) = wnt T c i := by
  unfold wnt; rw [List.range_succ, List.filter_append]; simp only [List.filter_cons, h, List.filter_nil]; simp
theorem wnt_len (T : List Bool) (c i : Nat) : (wnt T c i).length ≤ i := by
  have := List.length_filter_le (fun j => T.getD j false || decide (c ≤ j)) (List.range i)
  rwa [List.length_range] at this
theorem dfp_wnt (A : List Nat) (T : List Bool) (h : T.length = A.length) (c : Nat) (hc : c ≤ A.length) (i : Nat) (hi : i < A.length) :
    dfp A ((bt A T).take c) i = (T.getD i false || decide (c ≤ i)) := by
  have hl : ((bt A T).take c).length = c := by rw [List.length_take, bt_len A T h]; omega
  unfold dfp
  rw [hl, decide_eq_false (show ¬ A.length ≤ i by omega), Bool.false_or, Bool.or_comm]
  by_cases hci : c ≤ i
  · simp [hci]
  · rw [decide_eq_false hci, Bool.or_false, Bool.or_false]
    have e : ((bt A T).take c).getD i 0 = (bt A T).getD i 0 := by simp [List.getD_eq_getElem?_getD, show i < c by omega]
    rw [e, bt_get A T h i hi]
    cases q : T.getD i false
    · simp
    · simp; omega
theorem difs_wnt (A : List Nat) (T : List Bool) (h : T.length = A.length) (c : Nat) (hc : c ≤ A.length) : difs A ((bt A T).take c) = wnt T c A.length := by
  have hl : ((bt A T).take c).length = c := by rw [List.length_take, bt_len A T h]; omega
  unfold difs dif wnt
  rw [hl, Nat.max_eq_left hc]
  exact List.filter_congr fun i hi => dfp_wnt A T h c hc i (List.mem_range.1 hi)
theorem dfp_comm (A B : List Nat) (i : Nat) : dfp A B i = dfp B A i := by
  unfold dfp
  rw [← Bool.or_assoc, ← Bool.or_assoc, Bool.or_comm (decide (A.length ≤ i))]
  congr 1
  simp [eq_comm]
theorem difs_comm (A B : List Nat) : difs A B = difs B A := by
  unfold difs dif
  rw [Nat.max_comm]
  exact List.filter_congr fun i _ => dfp_comm A B i
theorem difs_self (A : List Nat) : difs A A = [] := by
  unfold difs dif
  rw [Nat.max_self, List.filter_eq_nil_iff]
  intro i hi
  have := List.mem_range.1 hi
  unfold dfp
  simp; omega
theorem info4 : (Try.prog.info? 4).map (fun i => (i.zero, i.size, i.bytes)) = some (some (.bool false), 1, 1) := by kernel_rfl
theorem own_stay {w w' : World} {base n : Nat} {e : TypeId} {v : Value} {xs : List Value} {B : Option Nat} (h : w.ownsRow base e 1 v n xs) (hg : w.grownBy w' B) (hne : ∀ g, v.ownBlock = some g → some g ≠ B) : w'.ownsRow base e 1 v n xs := by
  obtain ⟨h1, h2⟩ := h
  refine ⟨h1, ?_⟩
  rcases h2 with h2 | ⟨k, cap', cur, rfl, hh, h4, hn, hm, h5⟩
  · exact .inl h2
  · have hk : k < w.heap.size := (Array.getElem?_eq_some_iff.1 h4).1
    exact .inr ⟨k, cap', cur, rfl, hh, (hg.block k hk (hne k rfl)).trans h4, hn, hm, h5⟩
theorem own_two {w : World} {b1 b2 n1 n2 : Nat} {e1 e2 : TypeId} {v1 v2 : Value} {xs1 xs2 : List Value} (h1 : w.ownsRow b1 e1 1 v1 n1 xs1) (h2 : w.ownsRow b2 e2 1 v2 n2 xs2) (hne : e1 ≠ e2) : ∀ g, v1.ownBlock = some g → some g ≠ v2.ownBlock := by
  intro g hg hg2
  rcases h1.2 with ⟨rfl, -⟩ | ⟨k, _, _, rfl, -, h4, -⟩
  · simp [Value.ownBlock] at hg
  · rcases h2.2 with ⟨rfl, -⟩ | ⟨k2, _, _, rfl, -, h5, -⟩
    · simp [Value.ownBlock] at hg2
    · simp [Value.ownBlock] at hg hg2
      subst hg; subst hg2
      rw [h4] at h5
      simp at h5
      exact hne h5.2
theorem row_rdI {w : World} {a : Option Addr} {len cap : Nat} {zs : List Int}
    (h : (a = none ∧ len = 0 ∧ cap = 0 ∧ zs = []) ∨ ∃ x, a = some x ∧ len ≤ cap ∧ cap ≤ maxLen ∧ zs.length = cap ∧ (∀ i, i < zs.length → w.cell? (x.add i) = some (.int .i64 (zs.getD i 0))) ∧ ∀ n ∈ zs, (Lit.int .i64 n).wf = true) :
    Rd w (.slice a len cap) (izs (zs.take len)) := by
  rcases h with ⟨rfl, rfl, rfl, rfl⟩ | ⟨x, rfl, hl, hm, hz, hc, -⟩
  · exact ⟨none, 0, rfl, by simp [izs], by simp [maxLen], .inl rfl⟩
  · have hlen : (izs (zs.take len)).length = len := by simp [izs]; omega
    refine ⟨some x, cap, by rw [hlen], by rw [hlen]; exact hl, hm, ?_⟩
    by_cases h0 : len = 0
    · exact .inl (by subst h0; simp [izs])
    · obtain ⟨b, off, spot⟩ := x
      have h00 := hc 0 (by omega)
      have hspot : spot = none := by simpa [Addr.add] using World.cell?_spot h00
      subst hspot
      refine .inr ⟨b, off, rfl, ?_, fun i hi => ?_⟩
      · have := World.block_lt_of_cell? w _ h00
        simpa [Addr.add] using this
      · rw [hlen] at hi
        have h1 := hc i (by omega)
        have hadd : (⟨b, off, none⟩ : Addr).add i = ⟨b, off + i, none⟩ := by unfold Addr.add; split <;> simp_all
        rw [hadd] at h1
        rw [h1]
        simp [izs, List.getD_eq_getElem?_getD, hi, List.getElem?_eq_getElem (show i < zs.length by omega)]
theorem izs_cells {w : World} {a : Option Addr} {len cap : Nat} {Z : List Int} (h : Rd w (.slice a len cap) (izs Z)) (h0 : 0 < len) : ∃ b off, a = some ⟨b, off, none⟩ ∧ b < w.heap.size ∧ ∀ i, i < len → w.cell? ⟨b, off + i, none⟩ = some (.int .i64 (Z.getD i 0)) := by
  obtain ⟨a', cap', e, h1, h2, h3⟩ := h
  simp only [Value.slice.injEq] at e
  obtain ⟨rfl, e2, rfl⟩ := e
  have hl : (izs Z).length = Z.length := by simp [izs]
  rcases h3 with h3 | ⟨b, off, rfl, hb, hc⟩
  · rw [h3] at e2; simp at e2; omega
  · refine ⟨b, off, rfl, hb, fun i hi => ?_⟩
    rw [hc i (by omega)]
    simp [izs, List.getD_eq_getElem?_getD, List.getElem?_eq_getElem (show i < Z.length by omega)]
theorem bit_not : ∀ x : Fin 256, bits .xor .u8 255 (x.1 : Int) = ((255 - x.1 : Nat) : Int) := by decide +kernel
set_option maxRecDepth 100000 in
set_option maxHeartbeats 4000000 in
theorem differs_walk (v0 v1 : Value) (A : List Nat) (Z : List Int) (cut : Int) (w : World) (hr : Rd w v0 (nus .u8 A)) (hb : ∀ c ∈ A, c < 256) (hz : Rd w v1 (izs Z)) :
    Calls Try.prog 6 #[v0, v1, .int .i64 cut] w fun e w' => e = .returned (.bool true) ∧ Below w.heap.size w w' := by
  have K := Lib.hid (Below.refl w.heap.size w)
  have HR := Lib.hid hr
  have HZ := Lib.hid hz
  obtain ⟨a0, cap0, rfl, hlc, hlm⟩ := rd_shape hr
  obtain ⟨a1, cap1, rfl, hlc1, hlm1, -⟩ := hz
  rw [show (izs Z).length = Z.length from by simp [izs]] at *
  obtain ⟨n, hn⟩ : ∃ n, n = A.length := ⟨_, rfl⟩
  obtain ⟨m, hm⟩ : ∃ m, m = Z.length := ⟨_, rfl⟩
  rw [← hn] at HR hlc ⊢
  rw [← hm] at HZ hlc1 ⊢
  have HN := Lib.hid hn
  have HM := Lib.hid hm
  clear hr hm
  by_cases h1 : 300 < n
  · clear hn
    go_enter Try.func6, Try.ntmps6
    go_wp2_with fail
    refine (awake_any _).mono ?_
    rintro e w1 ⟨rfl, hy⟩
    go_wp2
    go_ret
    exact ⟨rfl, hy⟩
  by_cases h2 : 20 < m
  · clear hn
    go_enter Try.func6, Try.ntmps6
    go_wp2_with fail
    refine (awake_any _).mono ?_
    rintro e w1 ⟨rfl, hy⟩
    go_wp2
    go_ret
    exact ⟨rfl, hy⟩
  by_cases h3 : n = 0
  · subst h3
    have hA : A = [] := List.eq_nil_of_length_eq_zero hn.symm
    subst hA
    have CF := Lib.hid (differs_any _ _ [] [] w HR.out (rd_nil w .u8) (by simp) (by simp))
    rw [show (difs [] []) = [] from rfl] at CF
    clear hn
    go_enter Try.func6, Try.ntmps6
    go_wp2_with fail
    refine CF.out.mono ?_
    rintro e w1 ⟨x, rfl, ho, hy⟩
    obtain ⟨ax, cx, rfl, -, -⟩ := rd_shape (Rd.own ho)
    clear ho CF
    replace K := Lib.hid (K.out.trans hy)
    clear hy
    go_wp2_with fail
    refine (awake_any _).mono ?_
    rintro e w2 ⟨rfl, hy⟩
    replace K := Lib.hid (K.out.trans (hy.mono K.out.size))
    go_wp2
    go_ret
    exact ⟨rfl, K.out⟩
  obtain ⟨b0, o0, rfl, -⟩ := HR.out.cells (by omega)
  have HB := Lib.hid hb
  clear hb hn
  go_enter Try.func6, Try.ntmps6
  go_upto_region 5 with fail
  have L := Lib.hid (Below.refl w.heap.size w)
  have hal := (Below.refl w.heap.size w).alloc (Nat.le_refl _) (.cells #[] 5)
  have O := Lib.hid (own_low (b1 := w.heap.size) L.out.size (own_none w 5))
  replace L := Lib.hid (L.out.trans (hal.mono L.out.size))
  clear hal
  go_wp2_with ((at_builtin; refine wpList_app rfl (.tmp 33) (.tmp 34) rfl w.heap.size _ (0) [] rfl O.out ((some ⟨b0, o0, none⟩)) (n) (cap0) A rfl (HR.out.below L.out) (by intro e; cases e) ?ap1b ?ap1c ?ap1d))
  case ap1b => omega
  case ap1c => first | exact L.out.size | (have q := L.out.size; simp only [World.size_alloc] at q; exact q)
  intro vx V1 oz gz
  replace L := Lib.hid (L.out.grown gz L.out.size (fun k e => by first | exact (O.out.lt k e).1 | (cases e; first | exact Nat.le_refl _ | omega)))
  have oz : V1.ownsRow w.heap.size 5 1 vx (n) (nus .u8 (A)) := by first | exact oz | simpa using oz
  replace O := Lib.hid oz
  obtain ⟨gB, cB, rfl, hcB, hcBm, hgB, hgBu⟩ := own_at O.out (by omega)
  clear oz gz
  have hy := L.out
  replace K := Lib.hid (K.out.trans (hy.mono K.out.size))
  clear hy L
  have hbase : w.heap.size ≤ V1.heap.size := K.out.size
  obtain ⟨i0, hi, hz0, hz1, hz2⟩ := info_parts info4
  go_upto_region 6 with fail
  go_wp2_with ((at_make; refine wpList_make_full _ rfl _ _ 48 rfl w.heap.size 4 i0 (.bool false) 1 Try.underlying48 hi hz0 hz1 .i64 .i64 _ _ n rfl rfl ?mka ?mkb ?mkc ?mkd hbase ?_))
  case mka => omega
  case mkb => omega
  case mkc => rw [hz2]; omega
  case mkd => unfold maxLen; omega
  intro V2 o1 g1
  rw [toList_madeCells_one] at o1
  have hgT : gB < V1.heap.size := hgBu
  replace K := Lib.hid (K.out.grown g1 K.out.size (fun k e => by cases e))
  replace O := Lib.hid (show V2.ownsRow w.heap.size 5 1 (.slice (some ⟨gB, 0, none⟩) n cB) n (nus .u8 A) from own_stay O.out g1 (fun _ _ => by simp))
  have OT := Lib.hid (show V2.ownsRow w.heap.size 4 1 (.slice (some ⟨V1.heap.size, 0, none⟩) n n) n ((List.replicate n false).map Value.bool) from by rw [List.map_replicate]; exact o1)
  clear o1 g1 hi hz0 hz1 hz2 hbase
  generalize V1.heap.size = gT at *
  clear hlc hlc1 hlm hlm1
  go_wp2_with fail
  go_loopw [9] (fun i wr => ∃ (j : Nat) (T : List Bool), j ≤ m ∧ i = .int .i64 (j : Int) ∧ T.length = n ∧ wr.ownsRow w.heap.size 5 1 (.slice (some ⟨gB, 0, none⟩) n cB) n (nus .u8 (bt A T)) ∧ wr.ownsRow w.heap.size 4 1 (.slice (some ⟨gT, 0, none⟩) n n) n (T.map Value.bool) ∧ Below w.heap.size w wr) (fun i _ => m - (intOf i).toNat)
  case atStart => exact ⟨0, List.replicate n false, Nat.zero_le _, rfl, by simp, by rw [HN.out, bt_none]; rw [← HN.out]; exact O.out, OT.out, K.out⟩
  case round =>
    obtain ⟨j, T, hj, rfl, hTl, ho, hot, hy⟩ := hrel
    clear O OT K
    have O := Lib.hid ho
    have OT := Lib.hid hot
    have K := Lib.hid hy
    have HT := Lib.hid hTl
    clear ho hot hy hTl
    by_cases hjm : j < m
    · have hji : (j : Int) < (m : Int) := by omega
      obtain ⟨b1, o1, rfl, hb1, q1⟩ := izs_cells (HZ.out.below K.out) (by omega)
      have c1 := q1 j hjm
      generalize Z.getD j 0 = z at *
      obtain ⟨k, hk, hkn⟩ : ∃ k : Nat, z % (n : Int) = (k : Int) ∧ k < n := ⟨(z % (n : Int)).toNat, by have := Int.emod_nonneg z (show (n : Int) ≠ 0 by omega); omega, by have := Int.emod_nonneg z (show (n : Int) ≠ 0 by omega); have := Int.emod_lt_of_pos z (show (0 : Int) < n by omega); omega⟩
      have HK := Lib.hid hk
      clear hk q1
      go_wp2_with fail
      refine (round_any z n _ (by omega) (by omega)).mono ?_
      rintro e w' ⟨rfl, rfl⟩
      rw [HK.out]
      clear c1 hji
      obtain ⟨b0', o0', e0, q0⟩ := (HR.out.below K.out).cells (by omega)
      simp only [Option.some.injEq, Addr.mk.injEq, and_true] at e0
      obtain ⟨rfl, rfl⟩ := e0
      have ca := q0 k hkn
      have hk256 : A.getD k 0 < 256 := by
        rw [List.getD_eq_getElem?_getD, List.getElem?_eq_getElem (by rw [← HN.out]; exact hkn)]; exact HB.out _ (List.getElem_mem _)
      have hx := Lib.hid (show bits BinOp.xor IntKind.u8 (if IntKind.u8.signed = true then -1 else IntKind.u8.max) ((A.getD k 0 : Nat) : Int) = ((255 - A.getD k 0 : Nat) : Int) from bit_not ⟨A.getD k 0, hk256⟩)
      have hst := O.out.stored k (.int .u8 ((255 - A.getD k 0 : Nat) : Int))
      rw [nus_set, bt_set A T (by rw [HT.out, HN.out]) k (by rw [← HN.out]; exact hkn)] at hst
      have kB := O.out.cellAt k (by omega)
      rw [nus_get _ _ _ (by rw [bt_len _ _ (by rw [HT.out, HN.out]), ← HN.out]; exact hkn)] at kB
      have fB := O.out.frozenAt k
      have cT := OT.out.cellAt k (by omega)
      have hTk : (T.map Value.bool)[k]? = some (.bool (T.getD k false)) := by
        simp [List.getD_eq_getElem?_getD, List.getElem?_eq_getElem (show k < T.length by rw [HT.out]; exact hkn)]
      rw [hTk] at cT
      have fT := OT.out.frozenAt k
      have ot1 := own_stay OT.out hst.2 (fun g e => by simp [Value.ownBlock] at e; subst e; simp; omega)
      have hst2 := ot1.stored k (.bool true)
      have ho2 := own_stay hst.1 hst2.2 (fun g e => by simp [Value.ownBlock] at e; subst e; simp; omega)
      have K2 := Lib.hid ((K.out.grown hst.2 K.out.size (fun k e => by cases e; exact hgB)).grown hst2.2 (Nat.le_trans K.out.size (by simp)) (fun k e => by cases e; omega))
      have e3 : (T.map Value.bool).set k (.bool true) = (T.set k true).map Value.bool := by rw [List.map_set]
      have ot2 := hst2.1
      rw [e3] at ot2
      have O2 := Lib.hid ho2
      have OT2 := Lib.hid ot2
      have HT2 : Hid ((T.set k true).length = n) := by show _ = _; rw [List.length_set]; exact HT.out
      clear hst hst2 ot1 ho2 ot2 e3 q0 hTk O OT K HT
      generalize A.getD k 0 = x at *
      generalize (bt A T).getD k 0 = y at *
      generalize T.getD k false = tk at *
      have hki : (k : Int) < (n : Int) := by omega
      go_wp2
      go_roundw
      case rel =>
        refine ⟨j + 1, T.set k true, by omega, by go_num, HT2.out, ?_, ?_, ?_⟩
        all_goals rw [hx.out]
        · exact O2.out
        · exact OT2.out
        · exact K2.out
      case measure => simp [intOf]; omega
    · obtain rfl : m = j := by omega
      clear hj hjm
      have hw1 : IntKind.i64.wrap ((n : Int) + 1) = ((n + 1 : Nat) : Int) := by rw [IntKind.wrap_i64]; omega
      obtain ⟨c, hc, hcn⟩ : ∃ c : Nat, cut % ((n + 1 : Nat) : Int) = (c : Int) ∧ c ≤ n := ⟨(cut % ((n + 1 : Nat) : Int)).toNat, by have := Int.emod_nonneg cut (show ((n + 1 : Nat) : Int) ≠ 0 by omega); omega, by have := Int.emod_nonneg cut (show ((n + 1 : Nat) : Int) ≠ 0 by omega); have := Int.emod_lt_of_pos cut (show (0 : Int) < ((n + 1 : Nat) : Int) by omega); omega⟩
      have HC := Lib.hid hc
      clear hc
      go_wp2_with fail
      refine (round_any cut ((n + 1 : Nat) : Int) _ (by omega) (by omega)).mono ?_
      rintro e w' ⟨rfl, rfl⟩
      rw [HC.out]
      clear hw1
      go_wp2_with fail
      go_loopw [12, 13] (fun x i wr => ∃ j : Nat, j ≤ n ∧ i = .int .i64 (j : Int) ∧ wr.ownsRow w.heap.size 3 1 x (wnt T c j).length (nus .i64 (wnt T c j)) ∧ wr.ownsRow w.heap.size 5 1 (.slice (some ⟨gB, 0, none⟩) n cB) n (nus .u8 (bt A T)) ∧ wr.ownsRow w.heap.size 4 1 (.slice (some ⟨gT, 0, none⟩) n n) n (T.map Value.bool) ∧ Below w.heap.size w wr) (fun _ i _ => n - (intOf i).toNat)
      case atStart => exact ⟨0, Nat.zero_le _, rfl, own_nilI _ _ _, O.out, OT.out, K.out⟩
      case round =>
        obtain ⟨j, hj, rfl, hw, ho, hot, hy⟩ := hrel
        clear O OT K
        have OW := Lib.hid hw
        have O := Lib.hid ho
        have OT := Lib.hid hot
        have K := Lib.hid hy
        clear hw ho hot hy
        by_cases hjn : j < n
        · have hji : (j : Int) < (n : Int) := by omega
          have hwl := wnt_len T c j
          have cT := OT.out.cellAt j (by omega)
          have hTk : (T.map Value.bool)[j]? = some (.bool (T.getD j false)) := by
            simp [List.getD_eq_getElem?_getD, List.getElem?_eq_getElem (show j < T.length by rw [HT.out]; exact hjn)]
          rw [hTk] at cT
          have hjw : IntKind.i64.wrap ((j : Int) + 1) = ((j + 1 : Nat) : Int) := by rw [IntKind.wrap_i64]; omega
          clear hTk
          have HY := Lib.hid (show ∀ b, T.getD j false = b → (b || decide (c ≤ j)) = true → wnt T c (j + 1) = wnt T c j ++ [j] from fun b e h => wnt_yes T c j (by rw [e]; exact h))
          have HNo := Lib.hid (show T.getD j false = false → ¬ c ≤ j → wnt T c (j + 1) = wnt T c j from fun e h => wnt_no T c j (by rw [e, decide_eq_false h]; rfl))
          generalize htk : T.getD j false = tk at *
          have HTK := Lib.hid htk
          clear htk
          by_cases hyes : (tk || decide (c ≤ j)) = true
          · have HP : Hid (wnt T c (j + 1) = wnt T c j ++ [j]) := HY.out tk rfl hyes
            have hge : decide ((c : Int) ≤ (j : Int)) = decide (c ≤ j) := by simp
            have HYES := Lib.hid hyes
            clear HY HNo hyes
            cases tk with
            | true =>
              go_upto_region 19 with fail
              have hal := (Below.refl wr.heap.size wr).alloc (Nat.le_refl _) (.cells #[.int .i64 (j : Int)] 3)
              have O1 := Lib.hid (row_under OW.out hal)
              have OB1 := Lib.hid (row_under O.out hal)
              have OT1 := Lib.hid (row_under OT.out hal)
              have K1 := Lib.hid (K.out.trans (hal.mono K.out.size))
              have CG := Lib.hid (show (wr.alloc (.cells #[.int .i64 (j : Int)] 3)).cell? ⟨wr.heap.size, 0, none⟩ = some (.int .i64 (j : Int)) from (Boxed.new wr 3 (.int .i64 (j : Int))).cell)
              clear hal O OT OW K cT
              go_wp2_with (first | (at_builtin; refine wpList_app_int rfl (.tmp 83) (.tmp 85) rfl w.heap.size _ _ (wnt T c j) j rfl O1.out _ rfl CG.out ?ca ?cb ?_))
              case ca => omega
              case cb => have := K1.out.size; omega
              intro v2 w2 o2 g2
              have K2 := Lib.hid (K1.out.grown g2 K1.out.size (fun k e => (O1.out.lt k e).1))
              have OB2 := Lib.hid (own_stay OB1.out g2 (own_two OB1.out O1.out (by decide)))
              have OT2 := Lib.hid (own_stay OT1.out g2 (own_two OT1.out O1.out (by decide)))
              have O2 : Hid (w2.ownsRow w.heap.size 3 1 v2 (wnt T c (j + 1)).length (nus .i64 (wnt T c (j + 1)))) := by show World.ownsRow _ _ _ _ _ _ _; rw [HP.out, List.length_append]; exact o2
              clear o2 g2 O1 K1 CG OB1 OT1 HP
              go_wp2
              go_roundw
              case rel => exact ⟨j + 1, by omega, by go_num, O2.out, OB2.out, OT2.out, K2.out⟩
              case measure => simp [intOf]; omega
            | false =>
              have hcj : c ≤ j := by have := HYES.out; simpa using this
              have hcd : decide ((c : Int) ≤ (j : Int)) = true := decide_eq_true (by omega)
              go_upto_region 19 with fail
              have hal := (Below.refl wr.heap.size wr).alloc (Nat.le_refl _) (.cells #[.int .i64 (j : Int)] 3)
              have O1 := Lib.hid (row_under OW.out hal)
              have OB1 := Lib.hid (row_under O.out hal)
              have OT1 := Lib.hid (row_under OT.out hal)
              have K1 := Lib.hid (K.out.trans (hal.mono K.out.size))
              have CG := Lib.hid (show (wr.alloc (.cells #[.int .i64 (j : Int)] 3)).cell? ⟨wr.heap.size, 0, none⟩ = some (.int .i64 (j : Int)) from (Boxed.new wr 3 (.int .i64 (j : Int))).cell)
              clear hal O OT OW K cT
              go_wp2_with (first | (at_builtin; refine wpList_app_int rfl (.tmp 83) (.tmp 85) rfl w.heap.size _ _ (wnt T c j) j rfl O1.out _ rfl CG.out ?ca ?cb ?_))
              case ca => omega
              case cb => have := K1.out.size; omega
              intro v2 w2 o2 g2
              have K2 := Lib.hid (K1.out.grown g2 K1.out.size (fun k e => (O1.out.lt k e).1))
              have OB2 := Lib.hid (own_stay OB1.out g2 (own_two OB1.out O1.out (by decide)))
              have OT2 := Lib.hid (own_stay OT1.out g2 (own_two OT1.out O1.out (by decide)))
              have O2 : Hid (w2.ownsRow w.heap.size 3 1 v2 (wnt T c (j + 1)).length (nus .i64 (wnt T c (j + 1)))) := by show World.ownsRow _ _ _ _ _ _ _; rw [HP.out, List.length_append]; exact o2
              clear o2 g2 O1 K1 CG OB1 OT1 HP
              go_wp2
              go_roundw
              case rel => exact ⟨j + 1, by omega, by go_num, O2.out, OB2.out, OT2.out, K2.out⟩
              case measure => simp [intOf]; omega
          · have htf : tk = false := by cases tk; rfl; simp at hyes
            subst htf
            have hcj : ¬ c ≤ j := fun q => hyes (by rw [decide_eq_true q]; rfl)
            have HP : Hid (wnt T c (j + 1) = wnt T c j) := HNo.out rfl hcj
            have hcd : decide ((c : Int) ≤ (j : Int)) = false := decide_eq_false (by omega)
            have O2 : Hid (wr.ownsRow w.heap.size 3 1 u12 (wnt T c (j + 1)).length (nus .i64 (wnt T c (j + 1)))) := by show World.ownsRow _ _ _ _ _ _ _; rw [HP.out]; exact OW.out
            clear HY HNo hyes HP OW
            go_wp2
            go_roundw
            case rel => exact ⟨j + 1, by omega, by go_num, O2.out, O.out, OT.out, K.out⟩
            case measure => simp [intOf]; omega
        · obtain rfl : n = j := by omega
          have hAT : T.length = A.length := by rw [HT.out, HN.out]
          have hlw := wnt_len T c n
          have HD1 : Hid (difs A ((bt A T).take c) = wnt T c n) := by show _ = _; rw [difs_wnt A T hAT c (by rw [← HN.out]; exact hcn), ← HN.out]
          have HD2 : Hid (difs ((bt A T).take c) A = wnt T c n) := by show _ = _; rw [difs_comm]; exact HD1.out
          have hl1 : A.length ≤ 3000 := by rw [← HN.out]; omega
          have hl2 : ((bt A T).take c).length ≤ 3000 := by rw [List.length_take, bt_len A T hAT]; omega
          have R1 := Lib.hid (HR.out.below K.out)
          have RB := Lib.hid ((Rd.own O.out).front c (by rw [bt_len A T hAT, ← HN.out]; exact hcn))
          have RW := Lib.hid (Rd.own OW.out)
          generalize (bt A T).take c = BT at *
          have CF1 := Lib.hid (fun W x y (h1 : Rd W x (nus .u8 A)) (h2 : Rd W y (nus .u8 BT)) => differs_any x y A BT W h1 h2 hl1 hl2)
          have CF2 := Lib.hid (fun W x y (h1 : Rd W x (nus .u8 BT)) (h2 : Rd W y (nus .u8 A)) => differs_any x y BT A W h1 h2 hl2 hl1)
          have CF3 := Lib.hid (fun W x y (h1 : Rd W x (nus .u8 A)) (h2 : Rd W y (nus .u8 A)) => differs_any x y A A W h1 h2 hl1 hl1)
          rw [HD1.out] at CF1
          rw [HD2.out] at CF2
          rw [difs_self] at CF3
          have CI := Lib.hid (fun W x y (h1 : Rd W x (nus .i64 (wnt T c n))) (h2 : Rd W y (nus .i64 (wnt T c n))) => ints_any x y (wnt T c n) W h1 h2 (by omega))
          generalize wnt T c n = L at *
          have hcI : (c : Int) ≤ (cB : Int) := by omega
          clear HD1 HD2 hl1 hl2 O OW OT hAT hjn hj HN HB HT HR HC
          go_wp2_with fail
          refine (CF1.out _ _ _ R1.out RB.out).mono ?_
          rintro e V21 ⟨x1, rfl, ox1, hy⟩
          replace K := Lib.hid (K.out.trans (hy.mono K.out.size))
          replace R1 := Lib.hid (R1.out.below hy)
          replace RB := Lib.hid (RB.out.below hy)
          replace RW := Lib.hid (RW.out.below hy)
          have RX1 := Lib.hid (Rd.own ox1)
          clear ox1
          clear hy
          go_wp2_with fail
          refine (CI.out _ _ _ RX1.out RW.out).mono ?_
          rintro e V22 ⟨rfl, hy⟩
          replace K := Lib.hid (K.out.trans (hy.mono K.out.size))
          replace R1 := Lib.hid (R1.out.below hy)
          replace RB := Lib.hid (RB.out.below hy)
          replace RW := Lib.hid (RW.out.below hy)
          replace RX1 := Lib.hid (RX1.out.below hy)
          clear hy
          go_wp2_with fail
          refine (CF2.out _ _ _ RB.out R1.out).mono ?_
          rintro e V23 ⟨x2, rfl, ox2, hy⟩
          replace K := Lib.hid (K.out.trans (hy.mono K.out.size))
          replace R1 := Lib.hid (R1.out.below hy)
          replace RB := Lib.hid (RB.out.below hy)
          replace RW := Lib.hid (RW.out.below hy)
          replace RX1 := Lib.hid (RX1.out.below hy)
          have RX2 := Lib.hid (Rd.own ox2)
          clear ox2
          clear hy
          go_wp2_with fail
          refine (CI.out _ _ _ RX2.out RW.out).mono ?_
          rintro e V24 ⟨rfl, hy⟩
          replace K := Lib.hid (K.out.trans (hy.mono K.out.size))
          replace R1 := Lib.hid (R1.out.below hy)
          replace RB := Lib.hid (RB.out.below hy)
          replace RW := Lib.hid (RW.out.below hy)
          replace RX1 := Lib.hid (RX1.out.below hy)
          replace RX2 := Lib.hid (RX2.out.below hy)
          clear hy
          go_wp2_with fail
          refine (CF3.out _ _ _ R1.out R1.out).mono ?_
          rintro e V25 ⟨x3, rfl, ox3, hy⟩
          replace K := Lib.hid (K.out.trans (hy.mono K.out.size))
          replace R1 := Lib.hid (R1.out.below hy)
          replace RB := Lib.hid (RB.out.below hy)
          replace RW := Lib.hid (RW.out.below hy)
          replace RX1 := Lib.hid (RX1.out.below hy)
          replace RX2 := Lib.hid (RX2.out.below hy)
          obtain ⟨a3, c3, rfl, -, -⟩ := rd_shape (Rd.own ox3)
          clear ox3
          clear hy
          go_wp2_with fail
          refine (awake_any _).mono ?_
          rintro e V26 ⟨rfl, hy⟩
          replace K := Lib.hid (K.out.trans (hy.mono K.out.size))
          replace R1 := Lib.hid (R1.out.below hy)
          replace RB := Lib.hid (RB.out.below hy)
          replace RW := Lib.hid (RW.out.below hy)
          replace RX1 := Lib.hid (RX1.out.below hy)
          replace RX2 := Lib.hid (RX2.out.below hy)
          clear hy
          go_wp2
          go_ret
          exact ⟨rfl, K.out⟩
end Go.Proofs.Ythionipmohbnhaa
