/- Texts that the walks of this seat lean on, put together. -/
import Derived.Laws.BytesArg
import Derived.Lib.SlBytesConst
import Derived.DeepKeys
import Derived.Test.YthionipmohbnhaaTk
import Derived.Test.YthionipmohbnhaaM01
import Derived.Test.YthionipmohbnhaaM02
import Derived.Test.YthionipmohbnhaaM04
import Derived.Test.YthionipmohbnhaaM06
import Derived.Test.YthionipmohbnhaaM07
import Derived.Test.YthionipmohbnhaaM12
import Derived.Test.YthionipmohbnhaaM14
import Derived.Test.YthionipmohbnhaaM16
import Derived.Test.YthionipmohbnhaaM17
import Derived.Test.YthionipmohbnhaaM18
namespace Go.Proofs.Ythionipmohbnhaa
open Go.RowKit
theorem build_any (p : Nat) (hp : p = 6 ∨ p = 17) (v : Bool) (sb db : List Nat) (sp dp f pad : Nat) (a : Option Addr) (la ca : Nat) (zs : List Nat) (tag bare : Bool) (w : World) (hr : Rd w (.slice a la ca) (nus .u8 zs)) (hL : zs.length = la) (hna : a = none → ca = 0) (hb : ∀ c ∈ zs, c < 256) (hz : la ≤ 2000)
    (hl1 : sb.length = 16) (hl2 : db.length = 16) (hb1 : ∀ c ∈ sb, c < 256) (hb2 : ∀ c ∈ db, c < 256) (hv1 : vldA v sb = true) (hv2 : vldA v db = true) (hsp : sp < 65536) (hdp : dp < 65536) (hf : f < 256) (hpad : pad ≤ 100) :
    Calls Try.prog 14 #[.agg (kcells p (cellsA v sb) (cellsA v db) sp dp), .int .u8 (f : Int), .slice a la ca, .bool tag, .bool bare, .int .i64 (pad : Int)] w fun e w' => ∃ x n, e = .returned x ∧ w'.ownsRow w.heap.size 5 1 x n (nus .u8 (frmB v sb db p sp dp f zs tag bare pad)) ∧ Below w.heap.size w w' := by
  rcases hp with rfl | rfl
  · cases v
    · exact build_t4 sb db sp dp f pad a la ca zs tag bare w hr hL hna hb hz hl1 hl2 hb1 hb2 hv1 hv2 hsp hdp hf hpad
    · exact build_t6 sb db sp dp f pad a la ca zs tag bare w hr hL hna hb hz hl1 hl2 hb1 hb2 hv1 hv2 hsp hdp hf hpad
  · cases v <;> cases bare
    · exact build_u4 sb db sp dp f pad a la ca zs tag w hr hL hna hb hz hl1 hl2 hb1 hb2 hv1 hv2 hsp hdp hf hpad
    · exact build_b4 sb db sp dp f pad a la ca zs tag w hr hL hna hb hz hl1 hl2 hb1 hb2 hv1 hv2 hsp hdp hf hpad
    · exact build_u6 sb db sp dp f pad a la ca zs tag w hr hL hna hb hz hl1 hl2 hb1 hb2 hv1 hv2 hsp hdp hf hpad
    · exact build_b6 sb db sp dp f pad a la ca zs tag w hr hL hna hb hz hl1 hl2 hb1 hb2 hv1 hv2 hsp hdp hf hpad
theorem frmB_lt (v : Bool) (S D : List Nat) (p sp dp f : Nat) (data : List Nat) (tag bare : Bool) (pad : Nat) (hp : p < 256) (_hS : S.length = 16) (_hD : D.length = 16) (hb1 : ∀ c ∈ S, c < 256) (hb2 : ∀ c ∈ D, c < 256) (hf : f < 256) (hd : ∀ c ∈ data, c < 256) :
    ∀ c ∈ frmB v S D p sp dp f data tag bare pad, c < 256 := by
  intro c hc
  unfold frmB at hc
  simp only [List.mem_append] at hc
  rcases hc with ((h | h) | h) | h
  · unfold ethB at h; cases tag <;> cases v <;> simp at h <;> omega
  · unfold headB at h
    cases v with
    | true => exact mk6_lt S D p _ hb1 hb2 hp c h
    | false => exact ov_lt _ _ _ (mk0_lt (S.take 4) (D.take 4) p _ (fun c hc => hb1 c (List.mem_of_mem_take hc)) (fun c hc => hb2 c (List.mem_of_mem_take hc)) hp) (bg_lt 2 _) c h
  · exact segB_lt p v S D sp dp f data bare hf hd c h
  · have := (List.mem_replicate.1 h).2; omega
end Go.Proofs.Ythionipmohbnhaa
namespace Go.Proofs.Ythionipmohbnhaa
open Go.RowKit
def sV (u : Nat) : List Nat := kS u ++ List.replicate 12 0
def dV : List Nat := kD ++ List.replicate 12 0
theorem sV_len (u : Nat) : (sV u).length = 16 := rfl
theorem dV_len : dV.length = 16 := rfl
theorem sV_lt (u : Nat) : ∀ c ∈ sV u, c < 256 := by
  intro c hc
  rcases List.mem_append.1 hc with h | h
  · simp [kS] at h; omega
  · rw [List.eq_of_mem_replicate h]; omega
theorem dV_lt : ∀ c ∈ dV, c < 256 := by decide
theorem sV_v (v : Bool) (u : Nat) : vldA v (sV u) = true := by
  unfold vldA sV kS
  simp only [Bool.or_eq_true]
  right
  rfl
theorem dV_v (v : Bool) : vldA v dV = true := by cases v <;> rfl
def pr (udp : Bool) : Nat := if udp then 17 else 6
theorem pr_or (udp : Bool) : pr udp = 6 ∨ pr udp = 17 := by cases udp; exact .inl rfl; exact .inr rfl
def flow (u : Nat) (v udp : Bool) : Array Value := kcells (pr udp) (cellsA v (sV u)) (cellsA v dV) (1000 + u % 50000) 80
theorem flow_size (u : Nat) (v udp : Bool) : (flow u v udp).size = 37 := kcells_size _ _ _ _ _ (by rw [cellsA_size, sV_len]) (by rw [cellsA_size, dV_len])
theorem flow_all (u : Nat) (v udp : Bool) : (flow u v udp).all (·.oneCell') = true := kcells_all _ _ _ _ _ (cellsA_all _ _) (cellsA_all _ _)
theorem flow_any (n : Int) (v udp : Bool) (w : World) : Calls Try.prog 12 #[.int .i64 n, .bool v, .bool udp] w fun e w' => e = .returned (.agg (flow (n % 1073741824).toNat v udp)) ∧ Below w.heap.size w w' := key_any n v udp w
def fB8 (u : Nat) (v udp : Bool) (f : Nat) (data : List Nat) (tag bare : Bool) (R : List Nat) : List Nat := frR v (sV u) dV (pr udp) (1000 + u % 50000) 80 f data tag bare R
theorem fB8_told (u : Nat) (v udp : Bool) (f : Nat) (data : List Nat) (tag bare : Bool) (R : List Nat) (hl : data.length ≤ 1500) : Told8 v (sV u) dV (pr udp) (1000 + u % 50000) 80 f data tag bare R (fB8 u v udp f data tag bare R) :=
  told8 _ _ _ _ _ _ _ _ _ _ _ (pr_or udp) (sV_len u) dV_len (sV_v v u) (dV_v v) hl (by omega) (by omega)
theorem fB8_lt (u : Nat) (v udp : Bool) (f : Nat) (data : List Nat) (tag bare : Bool) (pad : Nat) (hf : f < 256) (hd : ∀ c ∈ data, c < 256) : ∀ c ∈ fB8 u v udp f data tag bare (List.replicate pad 0), c < 256 := by
  unfold fB8; rw [← frmB_R]
  exact frmB_lt v _ _ _ _ _ f data tag bare pad (by have := pr_or udp; omega) (sV_len u) dV_len (sV_lt u) dV_lt hf hd
theorem fB8_any (u : Nat) (v udp : Bool) (f : Nat) (pad : Nat) (a : Option Addr) (la ca : Nat) (zs : List Nat) (tag bare : Bool) (w : World) (hr : Rd w (.slice a la ca) (nus .u8 zs)) (hL : zs.length = la) (hna : a = none → ca = 0) (hb : ∀ c ∈ zs, c < 256) (hz : la ≤ 1500) (hf : f < 256) (hpad : pad ≤ 100) :
    Calls Try.prog 14 #[.agg (flow u v udp), .int .u8 (f : Int), .slice a la ca, .bool tag, .bool bare, .int .i64 (pad : Int)] w fun e w' => ∃ g c, e = .returned (.slice (some ⟨g, 0, none⟩) (fB8 u v udp f zs tag bare (List.replicate pad 0)).length c) ∧
      w'.ownsRow w.heap.size 5 1 (.slice (some ⟨g, 0, none⟩) (fB8 u v udp f zs tag bare (List.replicate pad 0)).length c) (fB8 u v udp f zs tag bare (List.replicate pad 0)).length (nus .u8 (fB8 u v udp f zs tag bare (List.replicate pad 0))) ∧ Below w.heap.size w w' := by
  refine (build_any (pr udp) (pr_or udp) v (sV u) dV (1000 + u % 50000) 80 f pad a la ca zs tag bare w hr hL hna hb (by omega) (sV_len u) dV_len (sV_lt u) dV_lt (sV_v v u) (dV_v v) (by omega) (by omega) hf hpad).mono ?_
  rintro e w' ⟨x, n, rfl, ho, hB⟩
  have e0 : frmB v (sV u) dV (pr udp) (1000 + u % 50000) 80 f zs tag bare pad = fB8 u v udp f zs tag bare (List.replicate pad 0) := frmB_R _ _ _ _ _ _ _ _ _ _ _
  rw [e0] at ho
  have hlen : (fB8 u v udp f zs tag bare (List.replicate pad 0)).length = n := by have := ho.1; rw [nus_length] at this; omega
  have ht := (fB8_told u v udp f zs tag bare (List.replicate pad 0) (by omega)).len
  subst hlen
  obtain ⟨g, c, rfl, -, -, -, -⟩ := own_at ho (by rw [ht]; unfold hN; split <;> omega)
  exact ⟨g, c, rfl, ho, hB⟩
end Go.Proofs.Ythionipmohbnhaa
namespace Go.Proofs.Ythionipmohbnhaa
open Go.RowKit
def B9 : List Nat := fB8 5 false false 0 [97, 98] false false [0, 0]
def D9 (m : Nat) : List Nat := dB m ++ List.replicate 12 0
def O9 : List Nat := to9 B9 (D9 1) 8001
theorem B9_len : B9.length = 58 := by kernel_rfl
theorem B9_lt : ∀ c ∈ B9, c < 256 := by decide +kernel
theorem O9_len : O9.length = 58 := by kernel_rfl
theorem O9_lt : ∀ c ∈ O9, c < 256 := by decide +kernel
theorem O9_rr : rr O9 = 0 := by kernel_rfl
theorem O9_gf : gf O9 = true := by kernel_rfl
theorem O9_vw : vw O9 = vcells false 14 34 56 (kcells 6 (cellsA false (sV 5)) (cellsA false (D9 1)) 1005 8001) 0 := by kernel_rfl
theorem B9_ok : ok9 B9 false (D9 1) = true := by kernel_rfl
theorem B9_six : ok9 B9 true (D9 1) = false := by kernel_rfl
theorem B9_cut : ok9 (B9.take 30) false (D9 1) = false := by kernel_rfl
theorem B9_ok2 : ok9 B9 false dV = true := by kernel_rfl
theorem B9_back : to9 B9 dV 0 = B9 := by kernel_rfl
end Go.Proofs.Ythionipmohbnhaa
namespace Go.Proofs.Ythionipmohbnhaa
open Go.RowKit
def str (zs : List Nat) : ByteArray := ⟨(zs.map UInt8.ofNat).toArray⟩
theorem strOfNums_nat (zs : List Nat) : strOfNums (zs.map fun n : Nat => (n : Int)) = str zs := by
  unfold strOfNums str
  rw [List.map_map]
  rfl
theorem conv_rd {P : Program} (w : World) (src dst e : TypeId) (hs : P.underlying src = some (.slice e)) (he : P.underlying e = some (.int .u8)) (hd : P.underlying dst = some .string) (v : Value) (zs : List Nat) (h : Rd w v (nus .u8 zs)) :
    (convert src dst v).run P w = .ok (.string (str zs)) w := by
  obtain ⟨a, cap, rfl, _, _, hx⟩ := h
  rw [nus_length] at hx ⊢
  rw [← strOfNums_nat]
  rcases hx with hx | ⟨b, off, rfl, _, hc⟩
  · obtain rfl := (nus_nil _ _).1 hx
    cases a with
    | none => exact run_convert_bytes_nil w src e hs he _ _ dst hd
    | some ad =>
      rw [run_convert_bytes_string w src dst e _ _ _ hs he hd, List.length_nil, run_bytesToString w ad 0 cap [] (by simp [loadCells, go_sem])]
      rfl
  · exact run_convert_bytes_arg w src e hs he b off zs.length cap (zs.map fun n : Nat => (n : Int)) (by simp) (fun i hi => by
      rw [hc i hi, nus_get _ _ _ hi]
      simp [List.getD_eq_getElem?_getD, List.getElem?_eq_getElem hi]) dst hd
end Go.Proofs.Ythionipmohbnhaa
namespace Go.Proofs.Ythionipmohbnhaa
open Go.RowKit
theorem dif9 : difs [1, 2, 3] [1, 5] = [1, 2] := by kernel_rfl
theorem built_dip (D : Array Value) (hD : D.size = 17) : Try.prog.built 28 [(0, .agg D)] = some (dcells D 0) := by
  obtain ⟨y0, y1, y2, y3, y4, y5, y6, y7, y8, y9, y10, y11, y12, y13, y14, y15, y16, rfl⟩ := arr17 D hD
  kernel_rfl
theorem dip_all (D : List Nat) (v : Bool) (p : Nat) : (dcells (cellsA v D) p).all (·.oneCell') = true := dcells_all _ _ (cellsA_all _ _)
set_option maxRecDepth 100000 in
set_option maxHeartbeats 4000000 in
theorem awake_any (w : World) : Calls Try.prog 7 #[] w fun e w' => e = .returned (.bool true) ∧ Below w.heap.size w w' := by
  have CK := Lib.hid (fun W => flow_any 5 false false W)
  rw [show ((5 : Int) % 1073741824).toNat = 5 from by decide] at CK
  have CB := Lib.hid (show ∀ W z, Rd W (.slice (some z) 2 2) (nus .u8 [97, 98]) → Calls Try.prog 14 #[.agg (flow 5 false false), .int .u8 0, .slice (some z) 2 2, .bool false, .bool false, .int .i64 2] W fun e w' => ∃ g c, e = .returned (.slice (some ⟨g, 0, none⟩) 58 c) ∧ Rd w' (.slice (some ⟨g, 0, none⟩) 58 c) (nus .u8 B9) ∧ Below W.heap.size W w' from fun W z h => by
    refine (fB8_any 5 false false 0 2 (some z) 2 2 [97, 98] false false W h rfl (by intro e; cases e) (by decide) (by omega) (by omega) (by omega)).mono ?_
    rintro e w' ⟨g, c, rfl, ho, hB⟩
    rw [show fB8 5 false false 0 [97, 98] false false (List.replicate 2 0) = B9 from rfl, B9_len] at ho
    exact ⟨g, c, by rw [show fB8 5 false false 0 [97, 98] false false (List.replicate 2 0) = B9 from rfl, B9_len], Rd.own ho, hB⟩)
  have CD := Lib.hid (fun W => dip_any 1 false W)
  rw [show dcells (cellsA false (dB ((1 : Int) % 200).toNat ++ List.replicate 12 0)) (8000 + ((1 : Int) % 1000).toNat) = dcells (cellsA false (D9 1)) 8001 from by rfl] at CD
  have CX := Lib.hid (fun W => dip_any 1 true W)
  rw [show dcells (cellsA true (dB ((1 : Int) % 200).toNat ++ List.replicate 12 0)) (8000 + ((1 : Int) % 1000).toNat) = dcells (cellsA true (D9 1)) 8001 from by rfl] at CX
  have dl : (D9 1).length = 16 := rfl
  have db : ∀ c ∈ D9 1, c < 256 := by decide
  have C1 := Lib.hid (fun W z (h : Rd W z (nus .u8 B9)) => to_any z B9 false (D9 1) 8001 W h B9_lt (by rw [B9_len]; omega) dl db (by omega))
  have C2 := Lib.hid (fun W z (h : Rd W z (nus .u8 B9)) => to_any z B9 true (D9 1) 8001 W h B9_lt (by rw [B9_len]; omega) dl db (by omega))
  have C3 := Lib.hid (fun W z (h : Rd W z (nus .u8 (B9.take 30))) => to_any z (B9.take 30) false (D9 1) 8001 W h (fun c hc => B9_lt c (List.mem_of_mem_take hc)) (by rw [List.length_take, B9_len]; omega) dl db (by omega))
  have C4 := Lib.hid (fun W z (h : Rd W z (nus .u8 B9)) => to_any z B9 false dV 0 W h B9_lt (by rw [B9_len]; omega) dV_len dV_lt (by omega))
  unfold tof at C1 C2 C3 C4
  rw [if_pos B9_ok, B9_ok, show to9 B9 (D9 1) 8001 = O9 from rfl] at C1
  rw [if_neg (by rw [B9_six]; decide), B9_six] at C2
  rw [if_neg (by rw [B9_cut]; decide), B9_cut] at C3
  rw [if_pos B9_ok2, B9_ok2, B9_back] at C4
  have CR := Lib.hid (fun W z (h : Rd W z (nus .u8 O9)) => rframe_any z O9 W h O9_lt (by rw [O9_len]; omega))
  rw [O9_rr] at CR
  have CG := Lib.hid (fun W z (h : Rd W z (nus .u8 O9)) => rfgood_any z O9 W h O9_lt (by rw [O9_len]; omega))
  rw [O9_gf] at CG
  have CF := Lib.hid (fun W x y (h1 : Rd W x (nus .u8 [1, 2, 3])) (h2 : Rd W y (nus .u8 [1, 5])) => differs_any x y [1, 2, 3] [1, 5] W h1 h2 (by decide) (by decide))
  rw [dif9] at CF
  have CI := Lib.hid (fun W x y (h1 : Rd W x (nus .i64 [1, 2])) (h2 : Rd W y (nus .i64 [1, 2])) => ints_any x y [1, 2] W h1 h2 (by decide))
  have QA := fun W => (eq_same false 172 16 0 2 0 0 0 0 0 0 0 0 0 0 0 0 (by decide) W)
  have QA := fun W => (show (Op.equalIn 10000 25 (.agg (cellsA false (D9 1))) (.agg (cellsA false (D9 1)))).run Try.prog W = .ok true W from QA W)
  have sA : (cellsA false (D9 1)).size = 17 := rfl
  have sV5 : (cellsA false dV).size = 17 := rfl
  have BD := Lib.hid (built_dip (cellsA false dV) sV5)
  have sd := dcells_size (cellsA false (D9 1)) 8001 sA
  have Ad := Lib.hid (dip_all (D9 1) false 8001)
  have sd2 := dcells_size (cellsA true (D9 1)) 8001 rfl
  have Ad2 := Lib.hid (dip_all (D9 1) true 8001)
  obtain ⟨d17, dpart⟩ := dip_get (cellsA false (D9 1)) 8001 sA
  have zk := flow_size 5 false false
  have Ak := Lib.hid (flow_all 5 false false)
  have PK := Lib.hid (show ((flow 5 false false).toList.drop 18).take (cellsA false dV).toList.length = (cellsA false dV).toList from rfl)
  have hvw := O9_vw
  have zv := vw_size O9
  have Av := Lib.hid (vw_all O9)
  have PV := Lib.hid (show ((vw O9).toList.drop 22).take (cellsA false (D9 1)).toList.length = (cellsA false (D9 1)).toList from by rw [hvw]; rfl)
  have v40 := Lib.hid (show (vw O9)[40]? = some (.int .u16 8001) from by rw [hvw]; rfl)
  have LB := Lib.hid B9_len
  generalize flow 5 false false = kc at *
  generalize vw O9 = VA at *
  clear hvw
  have Zk := Lib.hid (i42.trans (congrArg some zk.symm))
  have Yk : Hid (kc.size = Array.size (ZcK : Array Value)) := zk
  have IV := Lib.hid (i24.trans (congrArg some (show (17 : Nat) = (cellsA false dV).toList.length from rfl)))
  have IA := Lib.hid (i24.trans (congrArg some (show (17 : Nat) = (cellsA false (D9 1)).toList.length from rfl)))
  have Zv := Lib.hid (i72.trans (congrArg some zv.symm))
  have Yv : Hid (VA.size = Array.size (ZcV : Array Value)) := zv
  have Zd := Lib.hid (i45.trans (congrArg some sd.symm))
  have Yd : Hid ((dcells (cellsA false (D9 1)) 8001).size = Array.size (ZcD : Array Value)) := sd
  have d17 := Lib.hid d17
  have PD := Lib.hid dpart
  have t1 : ((8001 : Int) == 8001) = true := rfl
  have kcv := fun (w : World) (C : Array Value) (n c : Nat) => Lib.run_convert_bytes_const (P := Try.prog) w 22 5 C n c Try.underlying22 Try.underlying5
  have K := Lib.hid (Below.refl w.heap.size w)
  clear zk zv sd sd2 dl db dpart sA sV5
  generalize dcells (cellsA false (D9 1)) 8001 = dc at *
  generalize dcells (cellsA true (D9 1)) 8001 = dx at *
  generalize dcells (cellsA false dV) 0 = ds at *
  generalize cellsA false (D9 1) = DA at *
  generalize cellsA false dV = DV at *
  go_enter Try.func7, Try.ntmps7
  go_wp2_with fail
  refine (CK.out _).mono ?_
  rintro e V1 ⟨rfl, hy⟩
  replace K := Lib.hid (K.out.trans (hy.mono K.out.size))
  clear hy
  go_wp2_with (((with_reducible refine wpList_blk_store (op := ⟨none, .store 37 (.tmp 1) (.tmp 14), _, _, _, _⟩) ?sg1 37 (.tmp 1) (.tmp 14) ?so1 (V1.heap.size) kc ?sx1 ?sy1 (Blk.new V1 37 ZcK) Yk.out Zk.out Ak.out ?_); (case sg1 => rfl); (case so1 => rfl); (case sx1 => rfl); (case sy1 => rfl)))
  intro V2 hA hF hB
  have hy := ((Below.refl V1.heap.size V1).alloc (Nat.le_refl _) (.cells ZcK 37)).trans (hB _ (Nat.le_refl _))
  replace K := Lib.hid (K.out.trans (hy.mono K.out.size))
  have NK := Lib.hid hA
  clear hA hF hB hy
  have hal := (Below.refl V2.heap.size V2).alloc (Nat.le_refl _) (.cells #[Value.int .u8 97, .int .u8 98] 5 (2, 2 + 1))
  have RL := Lib.hid (show Rd (V2.alloc (.cells #[Value.int .u8 97, .int .u8 98] 5 (2, 2 + 1))) (.slice (some ⟨V2.heap.size, 0, none⟩) 2 2) (nus .u8 [97, 98]) from rd_lit V2 .u8 5 [97, 98] 2 (2, 3) rfl (by simp [maxLen]))
  have L2 : (loadVar 37 ⟨V1.heap.size, 0, none⟩).run Try.prog V2 = .ok (.agg kc) V2 := run_blk_load (P := Try.prog) 37 (V1.heap.size) _ NK.out Try.underlying37 rfl Zk.out
  replace L2 := Lib.hid L2
  go_wp2_with (((with_reducible refine wpList_load_want (op := ⟨some 15, .load 37 (.tmp 1), _, _, _, _⟩) ?wg2 37 (.tmp 1) ?wo2 ⟨V1.heap.size, 0, none⟩ ?wx2 (.agg kc) L2.out ?_); (case wg2 => rfl); (case wo2 => rfl); (case wx2 => rfl)))
  clear L2
  replace K := Lib.hid (K.out.trans (hal.mono K.out.size))
  replace NK := Lib.hid (NK.out.below hal NK.out.lt)
  clear hal kcv
  refine (CB.out _ _ RL.out).mono ?_
  rintro e V3 ⟨gb, cb, rfl, rb, hy⟩
  replace K := Lib.hid (K.out.trans (hy.mono K.out.size))
  replace NK := Lib.hid (NK.out.below hy NK.out.lt)
  have R0 := Lib.hid rb
  have RC := Lib.hid (rb.front 30 (by rw [LB.out]; omega))
  have h30 : (30 : Int) ≤ (cb : Int) := by
    obtain ⟨_, _, e1, h1, -, -⟩ := rb
    simp only [Value.slice.injEq] at e1
    obtain ⟨-, e2, rfl⟩ := e1
    rw [nus_length, LB.out] at h1
    omega
  clear rb hy RL CB CK
  go_wp2_with fail
  refine (CD.out _).mono ?_
  rintro e V4 ⟨rfl, hy⟩
  replace K := Lib.hid (K.out.trans (hy.mono K.out.size))
  replace NK := Lib.hid (NK.out.below hy NK.out.lt)
  replace R0 := Lib.hid (R0.out.below hy)
  replace RC := Lib.hid (RC.out.below hy)
  clear hy
  go_wp2_with (((with_reducible refine wpList_blk_store (op := ⟨none, .store 28 (.tmp 3) (.tmp 19), _, _, _, _⟩) ?sg3 28 (.tmp 3) (.tmp 19) ?so3 (V4.heap.size) dc ?sx3 ?sy3 (Blk.new V4 28 ZcD) Yd.out Zd.out Ad.out ?_); (case sg3 => rfl); (case so3 => rfl); (case sx3 => rfl); (case sy3 => rfl)))
  have qNKND : V1.heap.size < V4.heap.size := NK.out.lt
  intro V5 hA hF hB
  have hy := ((Below.refl V4.heap.size V4).alloc (Nat.le_refl _) (.cells ZcD 28)).trans (hB _ (Nat.le_refl _))
  replace K := Lib.hid (K.out.trans (hy.mono K.out.size))
  replace NK := Lib.hid (NK.out.below hy NK.out.lt)
  replace R0 := Lib.hid (R0.out.below hy)
  replace RC := Lib.hid (RC.out.below hy)
  have ND := Lib.hid hA
  clear hA hF hB hy
  have L4 : (loadVar 28 ⟨V4.heap.size, 0, none⟩).run Try.prog V5 = .ok (.agg dc) V5 := run_blk_load (P := Try.prog) 28 (V4.heap.size) _ ND.out Try.underlying28 rfl Zd.out
  replace L4 := Lib.hid L4
  go_wp2_with (((with_reducible refine wpList_load_want (op := ⟨some 22, .load 28 (.tmp 3), _, _, _, _⟩) ?wg4 28 (.tmp 3) ?wo4 ⟨V4.heap.size, 0, none⟩ ?wx4 (.agg dc) L4.out ?_); (case wg4 => rfl); (case wo4 => rfl); (case wx4 => rfl)))
  clear L4
  refine (C1.out _ _ R0.out).mono ?_
  rintro e V6 ⟨x1, rfl, ro, hy⟩
  replace K := Lib.hid (K.out.trans (hy.mono K.out.size))
  replace NK := Lib.hid (NK.out.below hy NK.out.lt)
  replace R0 := Lib.hid (R0.out.below hy)
  replace RC := Lib.hid (RC.out.below hy)
  replace ND := Lib.hid (ND.out.below hy ND.out.lt)
  have RO := Lib.hid (ro)
  clear ro
  clear hy
  go_wp2_with fail
  refine (CR.out _ _ RO.out).mono ?_
  rintro e V7 ⟨rfl, hy⟩
  replace K := Lib.hid (K.out.trans (hy.mono K.out.size))
  replace NK := Lib.hid (NK.out.below hy NK.out.lt)
  replace R0 := Lib.hid (R0.out.below hy)
  replace RC := Lib.hid (RC.out.below hy)
  replace ND := Lib.hid (ND.out.below hy ND.out.lt)
  replace RO := Lib.hid (RO.out.below hy)
  clear hy
  go_wp2_with (((with_reducible refine wpList_blk_store (op := ⟨none, .store 42 (.tmp 6) (.tmp 29), _, _, _, _⟩) ?sg5 42 (.tmp 6) (.tmp 29) ?so5 (V7.heap.size) VA ?sx5 ?sy5 (Blk.new V7 42 ZcV) Yv.out Zv.out Av.out ?_); (case sg5 => rfl); (case so5 => rfl); (case sx5 => rfl); (case sy5 => rfl)))
  have qNKNV : V1.heap.size < V7.heap.size := NK.out.lt
  have qNDNV : V4.heap.size < V7.heap.size := ND.out.lt
  intro V8 hA hF hB
  have hy := ((Below.refl V7.heap.size V7).alloc (Nat.le_refl _) (.cells ZcV 42)).trans (hB _ (Nat.le_refl _))
  replace K := Lib.hid (K.out.trans (hy.mono K.out.size))
  replace NK := Lib.hid (NK.out.below hy NK.out.lt)
  replace R0 := Lib.hid (R0.out.below hy)
  replace RC := Lib.hid (RC.out.below hy)
  replace ND := Lib.hid (ND.out.below hy ND.out.lt)
  replace RO := Lib.hid (RO.out.below hy)
  have NV := Lib.hid hA
  clear hA hF hB hy
  go_wp2_with fail
  refine (CX.out _).mono ?_
  rintro e V9 ⟨rfl, hy⟩
  replace K := Lib.hid (K.out.trans (hy.mono K.out.size))
  replace NK := Lib.hid (NK.out.below hy NK.out.lt)
  replace R0 := Lib.hid (R0.out.below hy)
  replace RC := Lib.hid (RC.out.below hy)
  replace ND := Lib.hid (ND.out.below hy ND.out.lt)
  replace RO := Lib.hid (RO.out.below hy)
  replace NV := Lib.hid (NV.out.below hy NV.out.lt)
  clear hy
  go_wp2_with fail
  refine (C2.out _ _ R0.out).mono ?_
  rintro e V10 ⟨x2, rfl, -, hy⟩
  replace K := Lib.hid (K.out.trans (hy.mono K.out.size))
  replace NK := Lib.hid (NK.out.below hy NK.out.lt)
  replace R0 := Lib.hid (R0.out.below hy)
  replace RC := Lib.hid (RC.out.below hy)
  replace ND := Lib.hid (ND.out.below hy ND.out.lt)
  replace RO := Lib.hid (RO.out.below hy)
  replace NV := Lib.hid (NV.out.below hy NV.out.lt)
  clear hy
  go_wp2_with fail
  refine wp_region_held (S := (fun w' : World => Below (V10.heap.size) V10 w')) (by kernel_rfl) ?_
  change wpAnyH _ _ _ _ _ _ _ _ V10.drew
  have hy : Below V10.heap.size V10 V10.drew := (Below.refl _ _).drew
  have hE0 : Below (V10.heap.size) V10 V10.drew := (Below.refl _ _).drew
  clear hy
  generalize V10.drew = Y7x0 at hE0  ⊢
  have E0 := Lib.hid hE0
  clear hE0
  refine tkA 0 (?_) ?_ E0.out ?_
  rotate_left
  · (intro w1 hS; go_simp; try with_reducible rfl)
  simp only [Act.put, tS1, tS2, tS3]
  refine tkA 1 (?_) ?_ E0.out ?_
  rotate_left
  · (intro w1 hS; have hW := hS; have q := h30; clear hW hS; go_simp; try with_reducible rfl)
  simp only [Act.put, tS1, tS2, tS3]
  refine tkA 2 (.agg dc) ?_ E0.out ?_
  · (intro w1 hS; have hW := hS; exact exec_load 28 (.tmp 3) rfl _ rfl _ (run_blk_load (P := Try.prog) 28 (V4.heap.size) _ (ND.out.below hW ND.out.lt) Try.underlying28 rfl Zd.out))
  simp only [Act.put, tS1, tS2, tS3]
  refine tkO 3 (fun KK hK => ?_)
  go_simp
  refine (C3.out _ _ (RC.out.below E0.out)).mono ?_
  rintro e Y7x1 ⟨x3, rfl, -, hy⟩
  have E1 := Lib.hid (E0.out.trans (hy.mono E0.out.size))
  have C1 := Lib.hid E1.out
  clear hy E0
  refine hK.out _ _ C1.out (fun _ => ?_)
  clear hK KK
  refine wpAnyH_mono (S' := (fun w' : World => Below Y7x1.heap.size Y7x1 w')) (fun w1 h => C1.out.trans (h.mono C1.out.size)) _ _ _ _ ?_
  clear C1
  try simp only [Act.put, tS1, tS2, tS3]
  refine tkA 4 (?_) ?_ (Below.refl _ _) ?_
  rotate_left
  · (intro w1 hS; go_simp; try with_reducible rfl)
  simp only [Act.put, tS1, tS2, tS3]
  refine tkA 5 (?_) ?_ (Below.refl _ _) ?_
  rotate_left
  · (intro w1 hS; go_simp; try with_reducible rfl)
  simp only [Act.put, tS1, tS2, tS3]
  refine tkA 7 (?_) ?_ (Below.refl _ _) ?_
  rotate_left
  · (intro w1 hS; go_simp; try with_reducible rfl)
  simp only [Act.put, tS1, tS2, tS3]
  refine tkA 6 (?_) ?_ (Below.refl _ _) ?_
  rotate_left
  · (intro w1 hS; go_simp; try with_reducible rfl)
  simp only [Act.put, tS1, tS2, tS3]
  refine tkA 8 (?_) ?_ (Below.refl _ _) ?_
  rotate_left
  · (intro w1 hS; go_simp; try with_reducible rfl)
  simp only [Act.put, tS1, tS2, tS3]
  refine wpAnyH_done (by kernel_rfl) ?_ _
  have hy := E1.out
  replace K := Lib.hid (K.out.trans (hy.mono K.out.size))
  replace NK := Lib.hid (NK.out.below hy NK.out.lt)
  replace R0 := Lib.hid (R0.out.below hy)
  replace RC := Lib.hid (RC.out.below hy)
  replace ND := Lib.hid (ND.out.below hy ND.out.lt)
  replace RO := Lib.hid (RO.out.below hy)
  replace NV := Lib.hid (NV.out.below hy NV.out.lt)
  clear hy E1
  clear C1 C2 C3 CR CX CD RC h30
  have L6 : (loadVar 25 ⟨V1.heap.size, 18, none⟩).run Try.prog Y7x1 = .ok (.agg DV) Y7x1 := by have h := run_part_load (P := Try.prog) 25 18 DV.toList _ NK.out PK.out Try.underlying25 rfl IV.out; rwa [Array.toArray_toList] at h
  replace L6 := Lib.hid L6
  go_wp2_with (first | ((with_reducible refine wpList_load_want (op := ⟨some 47, .load 25 (.tmp 46), _, _, _, _⟩) ?wg6 25 (.tmp 46) ?wo6 ⟨V1.heap.size, 18, none⟩ ?wx6 (.agg DV) L6.out ?_); (case wg6 => rfl); (case wo6 => rfl); (case wx6 => rfl)) | ((with_reducible refine wpList_built2 (op := ⟨some 48, .build 28 #[(0, Operand.tmp 47)], _, _, _, _⟩) ?wg48 28 #[(0, Operand.tmp 47)] ?wo48 #[(0, .agg DV)] ?wv48 ds ?wf48 ?_); (case wg48 => rfl); (case wo48 => rfl); (case wv48 => kernel_rfl); (case wf48 => exact BD.out)))
  clear L6
  refine (C4.out _ _ R0.out).mono ?_
  rintro e V11 ⟨x4, rfl, rs, hy⟩
  replace K := Lib.hid (K.out.trans (hy.mono K.out.size))
  replace NK := Lib.hid (NK.out.below hy NK.out.lt)
  replace R0 := Lib.hid (R0.out.below hy)
  replace ND := Lib.hid (ND.out.below hy ND.out.lt)
  replace RO := Lib.hid (RO.out.below hy)
  replace NV := Lib.hid (NV.out.below hy NV.out.lt)
  have RS := Lib.hid (rs)
  clear rs
  clear hy
  clear C4
  have L7 : (loadVar 25 ⟨V7.heap.size, 22, none⟩).run Try.prog V11 = .ok (.agg DA) V11 := by have h := run_part_load (P := Try.prog) 25 22 DA.toList _ NV.out PV.out Try.underlying25 rfl IA.out; rwa [Array.toArray_toList] at h
  replace L7 := Lib.hid L7
  have L8 : (loadVar 25 ⟨V4.heap.size, 0, none⟩).run Try.prog V11 = .ok (.agg DA) V11 := by have h := run_part_load (P := Try.prog) 25 0 DA.toList _ ND.out PD.out Try.underlying25 rfl IA.out; rwa [Array.toArray_toList] at h
  replace L8 := Lib.hid L8
  have L9 := (NV.out.cell 40).trans v40.out
  have L10 := (ND.out.cell 17).trans d17.out
  go_wp2_with (first | ((with_reducible refine wpList_load_want (op := ⟨some 60, .load 25 (.tmp 59), _, _, _, _⟩) ?wg7 25 (.tmp 59) ?wo7 ⟨V7.heap.size, 22, none⟩ ?wx7 (.agg DA) L7.out ?_); (case wg7 => rfl); (case wo7 => rfl); (case wx7 => rfl)) | ((with_reducible refine wpList_load_want (op := ⟨some 62, .load 25 (.tmp 61), _, _, _, _⟩) ?wg8 25 (.tmp 61) ?wo8 ⟨V4.heap.size, 0, none⟩ ?wx8 (.agg DA) L8.out ?_); (case wg8 => rfl); (case wo8 => rfl); (case wx8 => rfl)))
  clear L7 L8 L9 L10
  refine (CG.out _ _ RO.out).mono ?_
  rintro e V12 ⟨rfl, hy⟩
  replace K := Lib.hid (K.out.trans (hy.mono K.out.size))
  replace NK := Lib.hid (NK.out.below hy NK.out.lt)
  replace R0 := Lib.hid (R0.out.below hy)
  replace ND := Lib.hid (ND.out.below hy ND.out.lt)
  replace RO := Lib.hid (RO.out.below hy)
  replace NV := Lib.hid (NV.out.below hy NV.out.lt)
  replace RS := Lib.hid (RS.out.below hy)
  clear hy
  have cv1 := conv_rd V12 22 9 5 Try.underlying22 Try.underlying5 Try.underlying9 _ _ RS.out
  have cv2 := conv_rd V12 22 9 5 Try.underlying22 Try.underlying5 Try.underlying9 _ _ R0.out
  go_wp2_with fail
  have h1 := (Below.refl V12.heap.size V12).alloc (Nat.le_refl _) (.cells #[Value.int .u8 1, .int .u8 2, .int .u8 3] 5)
  have r1 := rd_lit V12 .u8 5 [1, 2, 3] 3 (0, 0) rfl (by simp [maxLen])
  have h2 := (Below.refl (V12.alloc (.cells #[Value.int .u8 1, .int .u8 2, .int .u8 3] 5)).heap.size (V12.alloc (.cells #[Value.int .u8 1, .int .u8 2, .int .u8 3] 5))).alloc (Nat.le_refl _) (.cells #[Value.int .u8 1, .int .u8 5] 5)
  have r2 := rd_lit (V12.alloc (.cells #[Value.int .u8 1, .int .u8 2, .int .u8 3] 5)) .u8 5 [1, 5] 2 (0, 0) rfl (by simp [maxLen])
  rw [World.size_alloc] at r2
  have L1 := Lib.hid (show Rd (V12.alloc (.cells #[Value.int .u8 1, .int .u8 2, .int .u8 3] 5)) (.slice (some ⟨V12.heap.size, 0, none⟩) 3 3) (nus .u8 [1, 2, 3]) from r1)
  have L2 := Lib.hid (show Rd ((V12.alloc (.cells #[Value.int .u8 1, .int .u8 2, .int .u8 3] 5)).alloc (.cells #[Value.int .u8 1, .int .u8 5] 5)) (.slice (some ⟨V12.heap.size + 1, 0, none⟩) 2 2) (nus .u8 [1, 5]) from r2)
  replace L1 := Lib.hid (L1.out.below h2)
  replace K := Lib.hid ((K.out.trans (h1.mono K.out.size)).trans (h2.mono (Nat.le_trans K.out.size h1.size)))
  clear h1 h2 r1 r2 cv1 cv2
  refine (CF.out _ _ _ L1.out L2.out).mono ?_
  rintro e V13 ⟨xd, rfl, od, hy⟩
  replace K := Lib.hid (K.out.trans (hy.mono K.out.size))
  have RD := Lib.hid (Rd.own od)
  clear od hy L1 L2 CF
  go_wp2_with fail
  have h1 := (Below.refl V13.heap.size V13).alloc (Nat.le_refl _) (.cells #[Value.int .i64 1, .int .i64 2] 3)
  have r1 := rd_lit V13 .i64 3 [1, 2] 2 (0, 0) rfl (by simp [maxLen])
  have L1 := Lib.hid (show Rd (V13.alloc (.cells #[Value.int .i64 1, .int .i64 2] 3)) (.slice (some ⟨V13.heap.size, 0, none⟩) 2 2) (nus .i64 [1, 2]) from r1)
  replace RD := Lib.hid (RD.out.below h1)
  replace K := Lib.hid (K.out.trans (h1.mono K.out.size))
  clear h1 r1
  refine (CI.out _ _ _ RD.out L1.out).mono ?_
  rintro e V14 ⟨rfl, hy⟩
  replace K := Lib.hid (K.out.trans (hy.mono K.out.size))
  clear hy RD L1 CI
  go_wp2
  go_ret
  exact ⟨rfl, K.out⟩
end Go.Proofs.Ythionipmohbnhaa
namespace Go.Proofs.Ythionipmohbnhaa
open Go.RowKit
structure Told9 (v : Bool) (S D : List Nat) (p sp dp f L : Nat) (tag : Bool) (F : List Nat) : Prop where
  six : sixF F = v
  pN : nN F = hN tag
  pS : nS F = hN tag + hH v
  pE : nE F = hN tag + hH v + (hsz p + L)
  fp : fP v (pkt F) = p
  a : lA v (pkt F) = S
  b : lB v (pkt F) = D
  u0 : u2 (sgm F) 0 = sp
  u2 : u2 (sgm F) 2 = dp
  fl : fl p (sgm F) = if p = 6 then f else 0
theorem told9 (v : Bool) (S D : List Nat) (p sp dp f : Nat) (data : List Nat) (tag bare : Bool) (R : List Nat) (hp : p = 6 ∨ p = 17) (hS : S.length = 16) (hD : D.length = 16) (hvS : vldA v S = true) (hvD : vldA v D = true)
    (hl : data.length ≤ 1500) (hsp : sp < 65536) (hdp : dp < 65536) : Told9 v S D p sp dp f data.length tag (frR v S D p sp dp f data tag bare R) := by
  have hn := segB_len p hp v S D sp dp f data bare
  have hz : hsz p ≤ 20 := by unfold hsz; split <;> omega
  obtain ⟨hu0, hu2, hfl⟩ := segB_ports p hp v S D sp dp f data bare hsp hdp
  obtain ⟨k1, k2, k3, k4, k5, k6⟩ := hd_key v S D p (segB p v S D sp dp f data bare) R (hsz p + data.length) hp hS hD hvS hvD hn (by omega)
  have hh := headB_len v S D p (hsz p + data.length) hS hD
  unfold frR
  generalize hSG : segB p v S D sp dp f data bare = SG at *
  generalize hX : headB v S D p (hsz p + data.length) ++ (SG ++ R) = X at *
  have hsix := eth_six tag v X
  have hpk := eth_pkt tag v X
  have hnet := eth_net tag v X
  have hdr : (ethB tag v ++ X).drop (hN tag + hH v) = SG ++ R := by
    rw [← hX, ← List.append_assoc]
    exact drop_app _ _ _ (by rw [List.length_append, ethB_len, hh]; rfl)
  have hsg : sgm (ethB tag v ++ X) = SG := by
    unfold sgm
    rw [hsix, hpk, hnet, k2, k3]
    show ((ethB tag v ++ X).drop (hN tag + hH v)).take _ = _
    rw [hdr, Nat.add_sub_cancel_left]
    exact take_app _ _ _ hn
  refine ⟨hsix, ?_, ?_, ?_, by rw [hpk, k4], by rw [hpk]; exact lA_of v X S k5 hS k1, by rw [hpk]; exact lB_of v X D k6 hD k1, by rw [hsg, hu0], by rw [hsg, hu2], by rw [hsg, hfl]⟩
  · unfold nN; rw [hnet]
  · unfold nS; rw [hsix, hpk, hnet, k2]; rfl
  · unfold nE; rw [hsix, hpk, hnet, k3]
    show hN tag + (hH v + _) = _
    omega
structure Sent (u : Nat) (v udp : Bool) (f : Nat) (data : List Nat) (tag : Bool) (D : List Nat) (tp : Nat) (B O : List Nat) : Prop where
  ok : ok9 B v D = true
  of : tof B v D tp = O
  len : O.length = B.length
  lt : ∀ c ∈ O, c < 256
  rr : rr O = 0
  gf : gf O = true
  vw : vw O = vcells v (hN tag) (hN tag + hH v) (hN tag + hH v + (hsz (pr udp) + data.length)) (kcells (pr udp) (cellsA v (sV u)) (cellsA v D) (1000 + u % 50000) (if tp = 0 then 80 else tp)) (if pr udp = 6 then f else 0)
  six : sixF O = v
  get : ∀ i, O.getD i 0 ≠ B.getD i 0 → (v = false ∧ (i = hN tag + 10 ∨ i = hN tag + 11 ∨ hN tag + 16 ≤ i ∧ i < hN tag + 20)) ∨ (v = true ∧ hN tag + 24 ≤ i ∧ i < hN tag + 40) ∨
    i = hN tag + hH v + 2 ∨ i = hN tag + hH v + 3 ∨ i = hN tag + hH v + sAt (pr udp) ∨ i = hN tag + hH v + sAt (pr udp) + 1
theorem sent (u : Nat) (v udp : Bool) (f : Nat) (data : List Nat) (tag bare : Bool) (R D : List Nat) (tp : Nat) (hl : data.length ≤ 1500) (hb : ∀ c ∈ fB8 u v udp f data tag bare R, c < 256) (hD : D.length = 16) (hbD : ∀ c ∈ D, c < 256) (hv : vldA v D = true) (ht : tp < 65536) :
    Sent u v udp f data tag D tp (fB8 u v udp f data tag bare R) (to9 (fB8 u v udp f data tag bare R) D tp) := by
  have h8 := fB8_told u v udp f data tag bare R hl
  have h9 : Told9 v (sV u) dV (pr udp) (1000 + u % 50000) 80 f data.length tag (fB8 u v udp f data tag bare R) := told9 _ _ _ _ _ _ _ _ _ _ _ (pr_or udp) (sV_len u) dV_len (sV_v v u) (dV_v v) hl (by omega) (by omega)
  generalize fB8 u v udp f data tag bare R = B at *
  have hv' : vldA (sixF B) D = true := by rw [h9.six]; exact hv
  have g := gone9 B D tp hb h8.rr hD hbD hv' ht
  have hok : ok9 B v D = true := by unfold ok9; rw [h8.rr, h9.six, hv]; simp
  refine ⟨hok, ?_, g.len, g.lt, g.rr0, g.good h8.gf, ?_, g.six.trans h9.six, fun i hi => ?_⟩
  · unfold tof; rw [if_pos hok]
  · rw [g.vw1, h9.six, h9.pN, h9.pS, h9.pE, h9.fp, h9.a, h9.u0, h9.fl]
    unfold pt9; rw [h9.u2]
  · have := gone_get B D tp hb h8.rr hD hbD hv' ht i hi
    rwa [h9.six, h9.pN, h9.pS, h9.fp] at this
theorem difs_get (A B : List Nat) (hl : A.length = B.length) (p : Nat) (hp : p ∈ difs A B) : p < A.length ∧ B.getD p 0 ≠ A.getD p 0 := by
  unfold difs at hp
  rw [dif_mem] at hp
  obtain ⟨h1, h2⟩ := hp
  have h1 : p < A.length := by omega
  refine ⟨h1, ?_⟩
  unfold dfp at h2
  rw [decide_eq_false (show ¬ A.length ≤ p by omega), decide_eq_false (show ¬ B.length ≤ p by omega)] at h2
  simp only [Bool.false_or, decide_eq_true_eq] at h2
  exact fun e => h2 e.symm
end Go.Proofs.Ythionipmohbnhaa
namespace Go.Proofs.Ythionipmohbnhaa
open Go.RowKit
theorem int_wf (n : Nat) (h : n < 9223372036854775808) : (Lit.int .i64 (n : Int)).wf = true := by
  simp [Lit.wf, IntKind.min, IntKind.max, IntKind.signed, IntKind.bits]
  omega
theorem key_int (d n : Nat) (h : n < 9223372036854775808) : Try.prog.keyLits (d + 1) 3 [.int .i64 (n : Int)] = some [.int .i64 (n : Int)] := by
  unfold Program.keyLits
  rw [Try.underlying3]
  simp [int_wf n h]
theorem u16_wf (n : Nat) (h : n < 65536) : (Lit.int .u16 (n : Int)).wf = true := by
  simp [Lit.wf, IntKind.min, IntKind.max, IntKind.signed, IntKind.bits]
  omega
theorem key_u16 (d n : Nat) (h : n < 65536) : Try.prog.keyLits (d + 1) 26 [.int .u16 (n : Int)] = some [.int .u16 (n : Int)] := by
  unfold Program.keyLits
  rw [Try.underlying26]
  simp [u16_wf n h]
theorem key_bool (d : Nat) (v : Bool) : Try.prog.keyLits (d + 1) 4 [.bool v] = some [.bool v] := by
  unfold Program.keyLits
  rw [Try.underlying4]
theorem lits26 (v : Bool) (bs : List Nat) (hl : bs.length = 16) (hb : ∀ c ∈ bs, c < 256) : ∃ l, Try.prog.keyLits 3 25 (cellsA v bs).toList = some l := by
  obtain ⟨b0, b1, b2, b3, b4, b5, b6, b7, b8, b9, b10, b11, b12, b13, b14, b15, rfl⟩ := list16 bs hl
  exact ⟨_, lits24 v b0 b1 b2 b3 b4 b5 b6 b7 b8 b9 b10 b11 b12 b13 b14 b15 hb⟩
theorem lits29 (p sp dp : Nat) (hp : p < 256) (h1 : sp < 65536) (h2 : dp < 65536) (S D : Array Value) (hS : S.size = 17) (hD : D.size = 17) (lS lD : List Lit) (eS : Try.prog.keyLits 3 25 S.toList = some lS) (eD : Try.prog.keyLits 3 25 D.toList = some lD) :
    Try.prog.keyLits 4 37 (kcells p S D sp dp).toList = some ([.int .u8 (p : Int)] ++ (lS ++ (lD ++ [.int .u16 (sp : Int), .int .u16 (dp : Int)]))) := by
  obtain ⟨x0, x1, x2, x3, x4, x5, x6, x7, x8, x9, x10, x11, x12, x13, x14, x15, x16, rfl⟩ := arr17 S hS
  obtain ⟨y0, y1, y2, y3, y4, y5, y6, y7, y8, y9, y10, y11, y12, y13, y14, y15, y16, rfl⟩ := arr17 D hD
  have eS : Try.prog.keyLits 3 25 [x0, x1, x2, x3, x4, x5, x6, x7, x8, x9, x10, x11, x12, x13, x14, x15, x16] = some lS := eS
  have eD : Try.prog.keyLits 3 25 [y0, y1, y2, y3, y4, y5, y6, y7, y8, y9, y10, y11, y12, y13, y14, y15, y16] = some lD := eD
  show Try.prog.keyLits 4 37 [.int .u8 (p : Int), x0, x1, x2, x3, x4, x5, x6, x7, x8, x9, x10, x11, x12, x13, x14, x15, x16, y0, y1, y2, y3, y4, y5, y6, y7, y8, y9, y10, y11, y12, y13, y14, y15, y16, .int .u16 (sp : Int), .int .u16 (dp : Int)] = _
  unfold Program.keyLits
  rw [Try.underlying37]
  have hc : Try.prog.cellsOf 5 = 1 := by kernel_rfl
  have hc2 : Try.prog.cellsOf 25 = 17 := by kernel_rfl
  have hc3 : Try.prog.cellsOf 26 = 1 := by kernel_rfl
  have hc4 : Try.prog.cellsOf 37 = 37 := by kernel_rfl
  simp [hc, hc2, hc3, hc4, eS, eD, key5 2 p hp, key_u16 2 sp h1, key_u16 2 dp h2]
theorem lits31 (six : Bool) (n s e f p sp dp : Nat) (hn : n < 9223372036854775808) (hs : s < 9223372036854775808) (he : e < 9223372036854775808) (hf : f < 256) (S D : Array Value) (hS : S.size = 17) (hD : D.size = 17) (lK : List Lit)
    (eK : Try.prog.keyLits 4 37 (kcells p S D sp dp).toList = some lK) :
    ∃ l, Try.prog.keyLits 5 42 (vcells six n s e (kcells p S D sp dp) f).toList = some l := by
  obtain ⟨x0, x1, x2, x3, x4, x5, x6, x7, x8, x9, x10, x11, x12, x13, x14, x15, x16, rfl⟩ := arr17 S hS
  obtain ⟨y0, y1, y2, y3, y4, y5, y6, y7, y8, y9, y10, y11, y12, y13, y14, y15, y16, rfl⟩ := arr17 D hD
  have eK : Try.prog.keyLits 4 37 [.int .u8 (p : Int), x0, x1, x2, x3, x4, x5, x6, x7, x8, x9, x10, x11, x12, x13, x14, x15, x16, y0, y1, y2, y3, y4, y5, y6, y7, y8, y9, y10, y11, y12, y13, y14, y15, y16, .int .u16 (sp : Int), .int .u16 (dp : Int)] = some lK := eK
  refine ⟨[.bool six, .int .i64 (n : Int), .int .i64 (s : Int), .int .i64 (e : Int)] ++ (lK ++ [.int .u8 (f : Int)]), ?_⟩
  show Try.prog.keyLits 5 42 [.bool six, .int .i64 (n : Int), .int .i64 (s : Int), .int .i64 (e : Int), .int .u8 (p : Int), x0, x1, x2, x3, x4, x5, x6, x7, x8, x9, x10, x11, x12, x13, x14, x15, x16, y0, y1, y2, y3, y4, y5, y6, y7, y8, y9, y10, y11, y12, y13, y14, y15, y16, .int .u16 (sp : Int), .int .u16 (dp : Int), .int .u8 (f : Int)] = _
  unfold Program.keyLits
  rw [Try.underlying42]
  have hc : Try.prog.cellsOf 5 = 1 := by kernel_rfl
  have hc2 : Try.prog.cellsOf 4 = 1 := by kernel_rfl
  have hc3 : Try.prog.cellsOf 3 = 1 := by kernel_rfl
  have hc4 : Try.prog.cellsOf 37 = 37 := by kernel_rfl
  have hc5 : Try.prog.cellsOf 42 = 42 := by kernel_rfl
  simp [hc, hc2, hc3, hc4, hc5, eK, key5 3 f hf, key_bool 3 six, key_int 3 n hn, key_int 3 s hs, key_int 3 e he]
theorem eq_of_lits31 (X : Array Value) (hX : X.size = 42) (h : ∃ l, Try.prog.keyLits 5 42 X.toList = some l) (w : World) : (Op.equalIn 10000 42 (.agg X) (.agg X)).run Try.prog w = .ok true w := by
  obtain ⟨l, hl⟩ := h
  have hf : (Value.agg X).formed Try.prog 42 = true := by
    have hc3 : Try.prog.cellsOf 42 = 42 := by kernel_rfl
    simp [Value.formed, Try.underlying42, hc3, hX]
  obtain ⟨r, hr, he⟩ := run_equalIn_deep (P := Try.prog) 9995 5 42 (by kernel_rfl) w 5 5 _ _ _ _ hf hf hl hl
  have e : r = true := he.2 rfl
  subst e
  exact hr
theorem eq_of_lits29 (X : Array Value) (hX : X.size = 37) (h : ∃ l, Try.prog.keyLits 4 37 X.toList = some l) (w : World) : (Op.equalIn 10000 37 (.agg X) (.agg X)).run Try.prog w = .ok true w := by
  obtain ⟨l, hl⟩ := h
  have hf : (Value.agg X).formed Try.prog 37 = true := by
    have hc3 : Try.prog.cellsOf 37 = 37 := by kernel_rfl
    simp [Value.formed, Try.underlying37, hc3, hX]
  obtain ⟨r, hr, he⟩ := run_equalIn_deep (P := Try.prog) 9996 4 37 (by kernel_rfl) w 4 4 _ _ _ _ hf hf hl hl
  have e : r = true := he.2 rfl
  subst e
  exact hr
theorem v0_lits : ∃ l, Try.prog.keyLits 5 42 v0.toList = some l := by
  obtain ⟨lS, eS⟩ := lits26 false (List.replicate 16 0) rfl (by decide)
  exact lits31 false 0 0 0 0 0 0 0 (by omega) (by omega) (by omega) (by omega) _ _ rfl rfl _ (lits29 0 0 0 (by omega) (by omega) (by omega) _ _ rfl rfl lS lS eS eS)
theorem vw_lits (zs : List Nat) (hb : ∀ c ∈ zs, c < 256) (hz : zs.length < 9223372036854775808) : ∃ l, Try.prog.keyLits 5 42 (vw zs).toList = some l := by
  by_cases h : rr zs = 0
  · obtain ⟨h1, h2, h3⟩ := rr_yes zs h
    have HDD := fhd_yes _ _ h2
    have hT : ∀ c ∈ pkt zs, c < 256 := fun c hc => hb c (List.mem_of_mem_drop hc)
    have hP : ∀ c ∈ sgm zs, c < 256 := fun c hc => hb c (List.mem_of_mem_drop (List.mem_of_mem_take hc))
    have e : vw zs = vcells (sixF zs) (net zs).1 ((net zs).1 + fS (sixF zs) (pkt zs)) ((net zs).1 + fL (sixF zs) (pkt zs)) (keyF zs) (fl (fP (sixF zs) (pkt zs)) (sgm zs)) := by unfold vw; rw [if_pos h]
    rw [e]
    unfold keyF
    have hA : (lA (sixF zs) (pkt zs)).length = 16 := lA_len _ _ h2
    have hB : (lB (sixF zs) (pkt zs)).length = 16 := lB_len _ _ h2
    obtain ⟨lS, eS⟩ := lits26 (sixF zs) _ hA (lA_lt _ _ hT)
    obtain ⟨lD, eD⟩ := lits26 (sixF zs) _ hB (lB_lt _ _ hT)
    have e1 : fA (sixF zs) (pkt zs) = cellsA (sixF zs) (lA (sixF zs) (pkt zs)) := by have := lA_eq (sixF zs) (pkt zs); unfold adr at this; exact Value.agg.inj this
    have e2 : fB (sixF zs) (pkt zs) = cellsA (sixF zs) (lB (sixF zs) (pkt zs)) := by have := lB_eq (sixF zs) (pkt zs); unfold adr at this; exact Value.agg.inj this
    have hlen := HDD.high
    have hmid := HDD.mid
    have hl : (pkt zs).length ≤ zs.length := by unfold pkt; rw [List.length_drop]; omega
    have hnet := (net_ok zs h1).2.1
    have hl2 : (pkt zs).length = zs.length - (net zs).1 := by unfold pkt; rw [List.length_drop]
    have hpr := HDD.pr
    rw [e1, e2]
    refine lits31 _ _ _ _ _ _ _ _ (by omega) (by omega) (by omega) ?_ _ _ (by rw [cellsA_size, hA]) (by rw [cellsA_size, hB]) _ (lits29 _ _ _ (by omega) (u2_lt _ 0 hP) (u2_lt _ 2 hP) _ _ (by rw [cellsA_size, hA]) (by rw [cellsA_size, hB]) lS lD eS eD)
    unfold fl; split
    · exact getD_lt _ hP 13
    · omega
  · have e : vw zs = v0 := by unfold vw; rw [if_neg h]
    rw [e]; exact v0_lits
theorem eq_vw (zs : List Nat) (hb : ∀ c ∈ zs, c < 256) (hz : zs.length < 9223372036854775808) (w : World) : (Op.equalIn 10000 42 (.agg (vw zs)) (.agg (vw zs))).run Try.prog w = .ok true w :=
  eq_of_lits31 _ (vw_size zs) (vw_lits zs hb hz) w
theorem eq_key (p sp dp : Nat) (v : Bool) (S D : List Nat) (hp : p < 256) (h1 : sp < 65536) (h2 : dp < 65536) (hS : S.length = 16) (hD : D.length = 16) (bS : ∀ c ∈ S, c < 256) (bD : ∀ c ∈ D, c < 256) (w : World) :
    (Op.equalIn 10000 37 (.agg (kcells p (cellsA v S) (cellsA v D) sp dp)) (.agg (kcells p (cellsA v S) (cellsA v D) sp dp))).run Try.prog w = .ok true w := by
  obtain ⟨lS, eS⟩ := lits26 v S hS bS
  obtain ⟨lD, eD⟩ := lits26 v D hD bD
  exact eq_of_lits29 _ (kcells_size _ _ _ _ _ (by rw [cellsA_size, hS]) (by rw [cellsA_size, hD])) ⟨_, lits29 p sp dp hp h1 h2 _ _ (by rw [cellsA_size, hS]) (by rw [cellsA_size, hD]) lS lD eS eD⟩ w
end Go.Proofs.Ythionipmohbnhaa
