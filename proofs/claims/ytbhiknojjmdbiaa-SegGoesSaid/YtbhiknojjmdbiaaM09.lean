/- Texts that the walks of this seat lean on, put together: each has its own remark below. -/
import Derived.Lib.QuietBelow
import Derived.WalkKit
import Derived.WalkSpells
import Derived.WalkLawsBesides
import Derived.Lib.Hide
import Derived.Handy
import Derived.BigQuiet
import Derived.Deep.QuietTactic
import Derived.Test.YtbhiknojjmdbiaaM01
import Derived.Test.YtbhiknojjmdbiaaM02
import Derived.Test.YtbhiknojjmdbiaaM03
import Derived.Test.YtbhiknojjmdbiaaM06
import Derived.Test.YtbhiknojjmdbiaaM07
import Derived.Test.YtbhiknojjmdbiaaM08
import Derived.Test.YtbhiknojjmdbiaaProg

/- bazaarref1.Bytes. -/
namespace Go.Proofs.Ytbhiknojjmdbiaa
open Go.RowKit

/-- The bytes of an address that lies in a block of its own. -/
theorem rd_adr {w : World} {g : Nat} {t : TypeId} {v : Bool} {bs : List Nat} (h : Blk w g t (cellsA v bs)) (n : Nat) (hn : n ≤ bs.length) (h16 : n ≤ 16) : Rd w (.slice (some ⟨g, 1, none⟩) n 16) (nus .u8 (bs.take n)) := by
  have hl : (nus .u8 (bs.take n)).length = n := by rw [nus_length]; simp; omega
  refine ⟨_, _, by rw [hl], by rw [hl]; exact h16, by simp [maxLen], .inr ⟨g, 1, rfl, h.lt, fun i hi => ?_⟩⟩
  rw [hl] at hi
  rw [h.cell (1 + i), cellsA_get v bs i (by omega), nus_get _ _ _ (by simp; omega)]
  simp [List.getD_eq_getElem?_getD, hi]

set_option maxHeartbeats 1000000 in
theorem rbytes_own (v : Bool) (bs : List Nat) (hl : bs.length = 16) (w : World) :
    Calls Try.prog 33 #[adr v bs] w fun e w' => ∃ z, e = .returned z ∧ w'.ownsRow w.heap.size 5 1 z (bytesA v bs).length (nus .u8 (bytesA v bs)) ∧ Below w.heap.size w w' := by
  unfold adr
  have HN := Lib.hid (Blk.new w 26 (cellsA v bs))
  have B0 := (Below.refl w.heap.size w).alloc (Nat.le_refl _) (.cells (cellsA v bs) 26)
  have hc0 : (w.alloc (.cells (cellsA v bs) 26)).cell? ⟨w.heap.size, 0, none⟩ = some (.bool v) := (HN.out.cell 0).trans (by simp [cellsA])
  have R4 := Lib.hid (rd_adr HN.out 4 (by omega) (by omega))
  have R16 := Lib.hid (rd_adr HN.out 16 (by omega) (by omega))
  have e16 : bs.take 16 = bs := List.take_of_length_le (by omega)
  rw [e16] at R16
  have HL := Lib.hid hl
  generalize cellsA v bs = c at *
  generalize hW : w.alloc (.cells c 26) = W at hc0 R4 R16 B0
  have HW := Lib.hid hW
  have hsz : w.heap.size ≤ W.heap.size := by rw [← hW]; simp
  have o1 := own_low hsz (own_none W 5)
  have b1 := (Below.refl W.heap.size W).alloc (Nat.le_refl _) (.cells #[] 5)
  have K1 := Lib.hid (B0.trans (b1.mono hsz))
  have O1 := Lib.hid o1
  have r4 := Lib.hid (R4.out.below b1)
  have r16 := Lib.hid (R16.out.below b1)
  clear hl hW HN B0 e16 o1 b1 R4 R16
  cases v with
  | false =>
    unfold bytesA
    rw [if_neg (by decide), show (bs.take 4).length = 4 from by rw [List.length_take, HL.out]; rfl]
    go_enter Try.func33, Try.ntmps33
    have hWW := HW.out
    go_wp2_with (at_builtin; refine wpList_app rfl (.tmp 6) (.tmp 9) rfl w.heap.size _ 0 [] rfl O1.out (some _) 4 16 (bs.take 4) rfl r4.out ?c1 ?c2 ?c3 ?c4)
    case c1 => intro e; cases e
    case c2 => omega
    case c3 => exact K1.out.size
    intro v2 w2 o2 g2
    have K2 := Lib.hid (K1.out.grown g2 K1.out.size (fun k e => (O1.out.lt k e).1))
    have O2 := Lib.hid o2
    clear o2 g2
    go_wp2
    go_ret
    exact ⟨_, rfl, O2.out, K2.out⟩
  | true =>
    unfold bytesA
    rw [if_pos rfl, show bs.length = 16 from HL.out]
    go_enter Try.func33, Try.ntmps33
    have hWW := HW.out
    go_wp2_with (at_builtin; refine wpList_app rfl (.tmp 6) (.tmp 9) rfl w.heap.size _ 0 [] rfl O1.out (some _) 16 16 bs rfl r16.out ?d1 ?d2 ?d3 ?d4)
    case d1 => intro e; cases e
    case d2 => omega
    case d3 => exact K1.out.size
    intro v2 w2 o2 g2
    have K2 := Lib.hid (K1.out.grown g2 K1.out.size (fun k e => (O1.out.lt k e).1))
    have O2 := Lib.hid o2
    clear o2 g2
    go_wp2
    go_ret
    exact ⟨_, rfl, O2.out, K2.out⟩
end Go.Proofs.Ytbhiknojjmdbiaa

/- Plain facts on rows of which a part is another one. -/
namespace Go.Proofs.Ytbhiknojjmdbiaa
open Go.RowKit Go.Sort

/-- B, where from place k on so many are T's. -/
def mix (B T : List Nat) (k j : Nat) : List Nat := B.take k ++ (T.take j ++ B.drop (k + j))
theorem mix_length (B T : List Nat) (k j : Nat) (h : k + j ≤ B.length) (hj : j ≤ T.length) : (mix B T k j).length = B.length := by
  simp [mix]; omega
theorem mix_zero (B T : List Nat) (k : Nat) : mix B T k 0 = B := by simp [mix]
theorem mix_step (B T : List Nat) (k j : Nat) (h : k + j < B.length) (hj : j < T.length) : (mix B T k j).set (k + j) (T.getD j 0) = mix B T k (j + 1) := by
  have hk : (B.take k).length = k := by simp; omega
  have ht : (T.take j).length = j := by simp; omega
  unfold mix
  rw [List.set_append_right _ _ (by omega), List.set_append_right _ _ (by omega), hk, ht, show k + j - k - j = 0 from by omega,
    List.drop_eq_getElem_cons h, List.set_cons_zero]
  simp [List.getD_eq_getElem?_getD, List.getElem?_eq_getElem hj, Nat.add_assoc]
  rw [List.take_succ_eq_append_getElem hj, List.append_assoc, List.singleton_append]
theorem mix_full (B T : List Nat) (k : Nat) : mix B T k T.length = B.take k ++ (T ++ B.drop (k + T.length)) := by simp [mix]
theorem mix_lt (B T : List Nat) (k j : Nat) (hB : ∀ c ∈ B, c < 256) (hT : ∀ c ∈ T, c < 256) : ∀ c ∈ mix B T k j, c < 256 := by
  intro c hc
  unfold mix at hc
  rcases List.mem_append.1 hc with h | h
  · exact hB c (List.mem_of_mem_take h)
  · rcases List.mem_append.1 h with h | h
    · exact hT c (List.mem_of_mem_take h)
    · exact hB c (List.mem_of_mem_drop h)
theorem changes_math (B T : List Nat) (k : Nat) (hk : k % 2 = 0) (hm : T.length % 2 = 0) (h : k + T.length ≤ B.length) (hB : ∀ c ∈ B, c < 256) :
    chA (ck B) ((B.drop k).take T.length) T % 65535 = ck (mix B T k T.length) % 65535 := by
  have hFl : ((B.drop k).take T.length).length = T.length := by simp; omega
  have hF : ∀ c ∈ (B.drop k).take T.length, c < 256 := fun c hc => hB c (List.mem_of_mem_drop (List.mem_of_mem_take hc))
  have e : chA (ck B) ((B.drop k).take T.length) T = chg (ck B) ((B.drop k).take T.length) T (T.length / 2) := chA_yes _ _ _ _ (by omega) (by omega)
  have h1 := chg_mod (ck B) ((B.drop k).take T.length) T (ck_le B) hF (T.length / 2) (by omega) (by omega)
  rw [List.take_of_length_le (l := T) (by omega), List.take_of_length_le (l := (B.drop k).take T.length) (by omega)] at h1
  have h2 := ck_mod B
  have h3 := ck_mod (mix B T k T.length)
  rw [mix_full, wsp_append, wsp_append] at h3
  have hk2 : (B.take k).length = k := by simp; omega
  rw [hk2, wsp_eq T (0 + k) 0 (by omega), wsp_eq (B.drop (k + T.length)) (0 + k + T.length) 0 (by omega)] at h3
  have hBs : B = B.take k ++ ((B.drop k).take T.length ++ B.drop (k + T.length)) := by
    rw [← List.drop_drop, List.take_append_drop, List.take_append_drop]
  have h4 : wsp 0 B = wsp 0 (B.take k) + (wsp 0 ((B.drop k).take T.length) + wsp 0 (B.drop (k + T.length))) := by
    conv => lhs; rw [hBs]
    rw [wsp_append, wsp_append, hk2, hFl, wsp_eq ((B.drop k).take T.length) (0 + k) 0 (by omega), wsp_eq (B.drop (k + T.length)) (0 + k + T.length) 0 (by omega)]
  rw [e, mix_full]
  generalize chg (ck B) ((B.drop k).take T.length) T (T.length / 2) = u at *
  generalize ck (B.take k ++ (T ++ B.drop (k + T.length))) = v at *
  omega
end Go.Proofs.Ytbhiknojjmdbiaa

/- bazaarref1.Port. -/
namespace Go.Proofs.Ytbhiknojjmdbiaa
open Go.RowKit

theorem rchange_b (old : Nat) (vf vt : Value) (F T : List Nat) (w : World) (hf : Rd w vf (nus .u8 F)) (ht : Rd w vt (nus .u8 T))
    (hz : F.length ≤ 1000) (hz2 : T.length ≤ 1000) (hbF : ∀ c ∈ F, c < 256) (hbT : ∀ c ∈ T, c < 256) (ho : old < 65536) :
    Calls Try.prog 32 #[.int .i64 (old : Int), vf, vt] w fun e w' => e = .returned (.int .i64 (chA old F T : Nat)) ∧ Below w.heap.size w w' :=
  (rchange_any old vf vt F T w hf ht hz hz2 hbF hbT ho).mono fun e w1 hh => ⟨hh.1, by obtain ⟨n, h⟩ := hh.2; rw [h]; exact below_drewN (Below.refl _ _) n⟩

set_option maxRecDepth 100000 in
set_option maxHeartbeats 1000000 in
theorem rport_no (p : Nat) (v : Value) (zs : List Nat) (tp : Nat) (v1 : Bool) (F : List Nat) (v2 : Bool) (D : List Nat) (w : World) (hr : Rd w v (nus .u8 zs)) (hb : ∀ c ∈ zs, c < 256) (h : fs p zs ≠ 0 ∨ v1 ≠ v2) :
    Calls Try.prog 14 #[.int .u8 (p : Int), v, .int .i64 (tp : Int), adr v1 F, adr v2 D] w fun e w' => e = .returned (.slice none 0 0) ∧ Below w.heap.size w w' := by
  have YH : Hid ((rs7 p zs).size = Array.size (#[Value.int .i64 0, .int .i64 0, .int .u8 0] : Array Value)) := rs7_size p zs
  have ZH := Lib.hid (i34.trans (congrArg some (rs7_size p zs).symm))
  have AH := Lib.hid (rs7_all p zs)
  have CS := Lib.hid (fun W (h : Rd W v (nus .u8 zs)) => rread_any p v zs W h hb)
  obtain ⟨a, cap, rfl, -, -⟩ := rd_shape hr
  unfold adr
  have E1 := Lib.hid (show (cellsA v1 F)[0]? = some (.bool v1) from cellsA_head _ _)
  have E2 := Lib.hid (show (cellsA v2 D)[0]? = some (.bool v2) from cellsA_head _ _)
  have I1 := Lib.hid (show True from trivial)
  have I2 := Lib.hid (show True from trivial)
  generalize cellsA v1 F = c1 at *
  generalize cellsA v2 D = c2 at *
  generalize rs7 p zs = H at *
  generalize fs p zs = r at *
  generalize zs.length = n at *
  have K := Lib.hid (Below.refl w.heap.size w)
  have HR := Lib.hid hr
  clear hr hb
  go_enter Try.func14, Try.ntmps14
  have hal := (Below.refl w.heap.size w).alloc (Nat.le_refl _) (.cells c1 26)
  replace K := Lib.hid (K.out.trans (hal.mono K.out.size))
  have N1 := Lib.hid (Blk.new w 26 c1)
  clear hal
  have hal := (Below.refl (w.alloc (.cells c1 26)).heap.size (w.alloc (.cells c1 26))).alloc (Nat.le_refl _) (.cells c2 26)
  replace K := Lib.hid (K.out.trans (hal.mono K.out.size))
  replace N1 := Lib.hid (N1.out.below hal N1.out.lt)
  have N2q := Blk.new (w.alloc (.cells c1 26)) 26 c2
  simp only [World.size_alloc] at N2q
  have N2 := Lib.hid N2q
  clear N2q
  clear hal
  go_wp2_with fail
  have hzV1 : Hid (((w.alloc (.cells c1 26)).alloc (.cells c2 26)).heap.size = w.heap.size + 1 + 1) := by show _ = _; simp only [World.size_alloc]
  generalize ((w.alloc (.cells c1 26)).alloc (.cells c2 26)) = V1 at *
  refine (CS.out _ (HR.out.below K.out)).mono ?_
  rintro e V2 ⟨rfl, hy⟩
  replace K := Lib.hid (K.out.trans (hy.mono K.out.size))
  replace N1 := Lib.hid (N1.out.below hy N1.out.lt)
  replace N2 := Lib.hid (N2.out.below hy N2.out.lt)
  clear hy
  go_wp2_with (((with_reducible refine wpList_blk_store (op := ⟨none, .store 34 (.tmp 11) (.tmp 21), _, _, _, _⟩) ?sg1 34 (.tmp 11) (.tmp 21) ?so1 (V2.heap.size) H ?sx1 ?sy1 (Blk.new V2 34 #[Value.int .i64 0, .int .i64 0, .int .u8 0]) YH.out ZH.out AH.out ?_); (case sg1 => rfl); (case so1 => rfl); (case sx1 => rfl); (case sy1 => rfl)))
  have qN1NS : w.heap.size < V2.heap.size := N1.out.lt
  have qN2NS : w.heap.size + 1 < V2.heap.size := N2.out.lt
  intro V3 hA hF hB
  have hy := ((Below.refl V2.heap.size V2).alloc (Nat.le_refl _) (.cells #[Value.int .i64 0, .int .i64 0, .int .u8 0] 34)).trans (hB _ (Nat.le_refl _))
  replace K := Lib.hid (K.out.trans (hy.mono K.out.size))
  replace N1 := Lib.hid (N1.out.below hy N1.out.lt)
  replace N2 := Lib.hid (N2.out.below hy N2.out.lt)
  have NS := Lib.hid hA
  clear hA hF hB hy
  have hc1 := (N1.out.cell 0).trans E1.out
  have hc2 := (N2.out.cell 0).trans E2.out
  by_cases hr0 : r = 0
  · have hv : v1 ≠ v2 := by rcases h with h | h; exact absurd hr0 h; exact h
    subst hr0
    clear h
    cases v1 <;> cases v2
    · exact absurd rfl hv
    · clear hv
      go_wp2
      go_ret
      exact ⟨rfl, K.out⟩
    · clear hv
      go_wp2
      go_ret
      exact ⟨rfl, K.out⟩
    · exact absurd rfl hv
  · have g0 : ((r : Int) != 0) = true := by simp; omega
    clear h hr0 hc1 hc2
    go_wp2
    go_ret
    exact ⟨rfl, K.out⟩

set_option maxRecDepth 100000 in
set_option maxHeartbeats 4000000 in
theorem rport_yes (p : Nat) (v : Value) (zs : List Nat) (tp : Nat) (v1 : Bool) (F D : List Nat) (w : World) (hr : Rd w v (nus .u8 zs)) (hb : ∀ c ∈ zs, c < 256) (h : fs p zs = 0) (hz : zs.length ≤ 3000) (ht : tp < 65536)
    (hF : F.length = 16) (hD : D.length = 16) (hbF : ∀ c ∈ F, c < 256) (hbD : ∀ c ∈ D, c < 256) :
    Calls Try.prog 14 #[.int .u8 (p : Int), v, .int .i64 (tp : Int), adr v1 F, adr v1 D] w fun e w' => ∃ x, e = .returned x ∧ Rd w' x (nus .u8 (prt p zs tp v1 F D)) ∧ Below w.heap.size w w' := by
  have YH : Hid ((rs7 p zs).size = Array.size (#[Value.int .i64 0, .int .i64 0, .int .u8 0] : Array Value)) := rs7_size p zs
  have ZH := Lib.hid (i34.trans (congrArg some (rs7_size p zs).symm))
  have AH := Lib.hid (rs7_all p zs)
  have CS := Lib.hid (fun W (h : Rd W v (nus .u8 zs)) => rread_any p v zs W h hb)
  rw [h] at CS
  have hn8 : 8 ≤ zs.length := by rcases fs_yes p zs h with ⟨-, h1, -⟩ | ⟨-, h1, -⟩ <;> omega
  have hat := sAt_in p zs h
  have hat1 := sAt_le p
  obtain ⟨a, cap, rfl, hlc, hlm⟩ := rd_shape hr
  obtain ⟨b, off, rfl, -⟩ := hr.cells (by omega)
  have CB1 := Lib.hid (fun w' => rbytes_own v1 F hF w')
  have CB2 := Lib.hid (fun w' => rbytes_own v1 D hD w')
  have lF := bytesA_len v1 F hF
  have lD := bytesA_len v1 D hD
  have bF := bytesA_lt v1 F hbF
  have bD := bytesA_lt v1 D hbD
  have CP := Lib.hid (fun W g cx base (h : W.ownsRow base 5 1 (.slice (some ⟨g, 0, none⟩) zs.length cx) zs.length (nus .u8 zs)) => rput16_any g zs.length cx base 2 tp zs W h (by unfold maxLen; omega) (by omega) ht)
  rw [set_ov _ _ _ (by omega) ht] at CP
  have CA := Lib.hid (fun W => rsumAt_any p (by rcases fs_yes p zs h with ⟨h1, -⟩ | ⟨h1, -⟩; exact .inl h1; exact .inr h1) W)
  have CW := Lib.hid (fun W (h : Rd W (.slice (some ⟨b, off, none⟩) zs.length cap) (nus .u8 zs)) => be16_b _ _ _ (sAt p) zs W h hb (by omega))
  have hwl := u2_lt zs (sAt p) hb
  have hm2 : ((ov zs (bg 2 tp) 2).drop 2).take 2 = bg 2 tp := ov_two zs tp (by omega)
  have l2 := two_at zs 2 (by omega)
  have CG := Lib.hid (fun W x y h1 h2 => rchange_b (u2 zs (sAt p)) x y ((zs.drop 2).take 2) (bg 2 tp) W h1 h2 (by omega) (by rw [bg_length]; omega) (fun c hc => hb c (List.mem_of_mem_drop (List.mem_of_mem_take hc))) (bg_lt 2 tp) hwl)
  have hc0 : chA (u2 zs (sAt p)) ((zs.drop 2).take 2) (bg 2 tp) < 65536 := chA_lt _ _ _ hwl
  have CH := Lib.hid (fun W x y h1 h2 => rchange_b (chA (u2 zs (sAt p)) ((zs.drop 2).take 2) (bg 2 tp)) x y (bytesA v1 F) (bytesA v1 D) W h1 h2 (by rw [lF]; split <;> omega) (by rw [lD]; split <;> omega) bF bD hc0)
  have hp1 := pc1_lt p zs tp v1 F D hb
  have hpc := pc_lt p zs tp v1 F D hb
  rw [show chA (chA (u2 zs (sAt p)) ((zs.drop 2).take 2) (bg 2 tp)) (bytesA v1 F) (bytesA v1 D) = pc1 p zs tp v1 F D from rfl] at CH
  have lov : (ov zs (bg 2 tp) 2).length = zs.length := ov_length _ _ _ (by rw [bg_length]; omega)
  have CQ := Lib.hid (fun W g cx base (h : W.ownsRow base 5 1 (.slice (some ⟨g, 0, none⟩) zs.length cx) zs.length (nus .u8 (ov zs (bg 2 tp) 2))) => rput16_any g zs.length cx base (sAt p) (pc p zs tp v1 F D) (ov zs (bg 2 tp) 2) W h (by unfold maxLen; omega) (by omega) hpc)
  rw [set_ov _ _ _ (by omega) hpc] at CQ
  have HS1 := Lib.hid (hr.sub 2 2 (by omega))
  have HP : Hid (pc p zs tp v1 F D = if p = 17 ∧ pc1 p zs tp v1 F D = 0 then 65535 else pc1 p zs tp v1 F D) := rfl
  have HX : Hid (prt p zs tp v1 F D = if wo p zs then ov zs (bg 2 tp) 2 else ov (ov zs (bg 2 tp) 2) (bg 2 (pc p zs tp v1 F D)) (sAt p)) := rfl
  have HW : Hid (wo p zs = decide (p = 17 ∧ u2 zs (sAt p) = 0)) := by
    show _ = _
    unfold wo
    by_cases h1 : p = 17
    · subst h1; rfl
    · rw [decide_eq_false (by omega), decide_eq_false (by omega)]
  unfold adr at CB1 CB2 ⊢
  have E1 := Lib.hid (show (cellsA v1 F)[0]? = some (.bool v1) from cellsA_head _ _)
  have E2 := Lib.hid (show (cellsA v1 D)[0]? = some (.bool v1) from cellsA_head _ _)
  have z1 : (cellsA v1 F).size = 17 := by rw [cellsA_size, hF]
  have z2 : (cellsA v1 D).size = 17 := by rw [cellsA_size, hD]
  have I1 := Lib.hid (i24.trans (congrArg some z1.symm))
  have I2 := Lib.hid (i24.trans (congrArg some z2.symm))
  have HM2 := Lib.hid hm2
  have HL := Lib.hid (show zs.length = zs.length from rfl)
  have K := Lib.hid (Below.refl w.heap.size w)
  have HR := Lib.hid hr
  clear hr hb h z1 z2 hbF hbD bF bD hm2 hc0 l2 lF lD hF hD
  generalize cellsA v1 F = c1 at *
  generalize cellsA v1 D = c2 at *
  generalize bytesA v1 F = bf at *
  generalize bytesA v1 D = bd at *
  generalize wo p zs = wq at *
  generalize pc p zs tp v1 F D = pcv at *
  generalize pc1 p zs tp v1 F D = pc1v at *
  generalize prt p zs tp v1 F D = RES at *
  generalize u2 zs (sAt p) = o0 at *
  generalize ov zs (bg 2 tp) 2 = ZO at *
  generalize (zs.drop 2).take 2 = Z2 at *
  generalize chA o0 Z2 (bg 2 tp) = ch0 at *
  generalize bg 2 tp = bt at *
  generalize rs7 p zs = H at *
  obtain ⟨at0, hat0⟩ : ∃ x, x = sAt p := ⟨_, rfl⟩
  rw [← hat0] at CA CW CQ HX hat hat1
  clear hat0
  generalize zs.length = n at *
  clear HL
  unfold maxLen at hlm
  go_enter Try.func14, Try.ntmps14
  have hal := (Below.refl w.heap.size w).alloc (Nat.le_refl _) (.cells c1 26)
  replace K := Lib.hid (K.out.trans (hal.mono K.out.size))
  have N1 := Lib.hid (Blk.new w 26 c1)
  clear hal
  have hal := (Below.refl (w.alloc (.cells c1 26)).heap.size (w.alloc (.cells c1 26))).alloc (Nat.le_refl _) (.cells c2 26)
  replace K := Lib.hid (K.out.trans (hal.mono K.out.size))
  replace N1 := Lib.hid (N1.out.below hal N1.out.lt)
  have N2q := Blk.new (w.alloc (.cells c1 26)) 26 c2
  simp only [World.size_alloc] at N2q
  have N2 := Lib.hid N2q
  clear N2q
  clear hal
  go_wp2_with fail
  have hzV1 : Hid (((w.alloc (.cells c1 26)).alloc (.cells c2 26)).heap.size = w.heap.size + 1 + 1) := by show _ = _; simp only [World.size_alloc]
  generalize ((w.alloc (.cells c1 26)).alloc (.cells c2 26)) = V1 at *
  refine (CS.out _ (HR.out.below K.out)).mono ?_
  rintro e V2 ⟨rfl, hy⟩
  replace K := Lib.hid (K.out.trans (hy.mono K.out.size))
  replace N1 := Lib.hid (N1.out.below hy N1.out.lt)
  replace N2 := Lib.hid (N2.out.below hy N2.out.lt)
  clear hy
  go_wp2_with (((with_reducible refine wpList_blk_store (op := ⟨none, .store 34 (.tmp 11) (.tmp 21), _, _, _, _⟩) ?sg2 34 (.tmp 11) (.tmp 21) ?so2 (V2.heap.size) H ?sx2 ?sy2 (Blk.new V2 34 #[Value.int .i64 0, .int .i64 0, .int .u8 0]) YH.out ZH.out AH.out ?_); (case sg2 => rfl); (case so2 => rfl); (case sx2 => rfl); (case sy2 => rfl)))
  have qN1NS : w.heap.size < V2.heap.size := N1.out.lt
  have qN2NS : w.heap.size + 1 < V2.heap.size := N2.out.lt
  intro V3 hA hF hB
  have hy := ((Below.refl V2.heap.size V2).alloc (Nat.le_refl _) (.cells #[Value.int .i64 0, .int .i64 0, .int .u8 0] 34)).trans (hB _ (Nat.le_refl _))
  replace K := Lib.hid (K.out.trans (hy.mono K.out.size))
  replace N1 := Lib.hid (N1.out.below hy N1.out.lt)
  replace N2 := Lib.hid (N2.out.below hy N2.out.lt)
  have NS := Lib.hid hA
  clear hA hF hB hy
  have hc1 := (N1.out.cell 0).trans E1.out
  have hc2 := (N2.out.cell 0).trans E2.out
  have ge : (v1 != v1) = false := by cases v1 <;> rfl
  go_upto_region 4 with fail
  clear hc1 hc2 ge
  have hw1 : w.heap.size ≤ V3.heap.size := K.out.size
  have hN1 : w.heap.size + 1 < V3.heap.size := N2.out.lt
  have hNS := NS.out.lt
  have hwK := K.out
  have L := Lib.hid (Below.refl V3.heap.size V3)
  have hal := (Below.refl V3.heap.size V3).alloc (Nat.le_refl _) (.cells #[] 5)
  have O := Lib.hid (own_low (b1 := V3.heap.size) L.out.size (own_none V3 5))
  replace L := Lib.hid (L.out.trans (hal.mono L.out.size))
  clear hal
  go_wp2_with ((at_builtin; refine wpList_app rfl (.tmp 32) (.tmp 33) rfl V3.heap.size _ (0) [] rfl O.out (some ⟨b, off, none⟩) (n) (cap) zs rfl (HR.out.below (hwK.trans (L.out.mono hw1))) (by intro e; cases e) ?ap3b ?ap3c ?ap3d))
  case ap3b => omega
  case ap3c => exact L.out.size
  intro vx V4 oz gz
  replace L := Lib.hid (L.out.grown gz L.out.size (fun k e => by first | exact (O.out.lt k e).1 | (cases e; first | exact Nat.le_refl _ | omega)))
  have oz : V4.ownsRow V3.heap.size 5 1 vx (n) (nus .u8 (zs)) := by first | exact oz | simpa using oz
  replace O := Lib.hid oz
  obtain ⟨g, cx, rfl, hcx, hcxm, hg, hgu⟩ := own_at O.out (by omega)
  clear oz gz
  have hy := L.out
  replace K := Lib.hid (K.out.trans (hy.mono K.out.size))
  replace N1 := Lib.hid (N1.out.below hy N1.out.lt)
  replace N2 := Lib.hid (N2.out.below hy N2.out.lt)
  replace NS := Lib.hid (NS.out.below hy NS.out.lt)
  clear hy L
  clear hwK
  go_wp2_with fail
  refine (CP.out _ _ _ _ O.out).mono ?_
  rintro e V5 ⟨rfl, og, gr⟩
  replace K := Lib.hid (K.out.grown gr K.out.size (fun k e => by first | (cases e; done) | (cases e; first | exact Nat.le_refl _ | omega)))
  replace N1 := Lib.hid (show Blk _ _ _ _ from (gr.block _ N1.out.lt (by first | (simp; done) | (simp; omega))).trans N1.out)
  replace N2 := Lib.hid (show Blk _ _ _ _ from (gr.block _ N2.out.lt (by first | (simp; done) | (simp; omega))).trans N2.out)
  replace NS := Lib.hid (show Blk _ _ _ _ from (gr.block _ NS.out.lt (by first | (simp; done) | (simp; omega))).trans NS.out)
  replace O := Lib.hid og
  clear og gr
  go_wp2_with fail
  refine (CA.out _).mono ?_
  rintro e V6 ⟨rfl, rfl⟩
  go_wp2_with fail
  refine (CW.out _ (HR.out.below K.out)).mono ?_
  rintro e V7 ⟨rfl, hy⟩
  replace K := Lib.hid (K.out.trans (hy.mono K.out.size))
  replace N1 := Lib.hid (N1.out.below hy N1.out.lt)
  replace N2 := Lib.hid (N2.out.below hy N2.out.lt)
  replace NS := Lib.hid (NS.out.below hy NS.out.lt)
  replace O := Lib.hid (row_under O.out hy)
  clear hy
  cases wq with
  | true =>
    rw [show ZO = RES by rw [HX.out]; rfl] at O
    have hw := HW.out.symm
    rw [decide_eq_true_eq] at hw
    obtain ⟨rfl, rfl⟩ := hw
    clear HX HW
    go_wp2
    go_ret
    exact ⟨_, rfl, Rd.own O.out, K.out⟩
  | false =>
    have HX2 := Lib.hid (show RES = ov ZO (bg 2 pcv) at0 by rw [HX.out]; rfl)
    have hw := HW.out.symm
    rw [decide_eq_false_iff_not] at hw
    have HW2 := Lib.hid hw
    clear HX HW hw
    have hs2 := (Rd.own O.out).sub 2 2 (by omega)
    rw [HM2.out] at hs2
    have HS2 := Lib.hid hs2
    clear hs2
    by_cases h17 : p = 17
    · subst h17
      have g4 : ((o0 : Int) == 0) = false := by rw [beq_eq_false_iff_ne]; have := HW2.out; omega
      go_wp2_with fail
      have H2 := Lib.hid (HS1.out.below K.out)
      clear HS2
      have hs2 := (Rd.own O.out).sub 2 2 (by omega)
      rw [HM2.out] at hs2
      have HS2 := Lib.hid hs2
      clear hs2
      go_wp2_with fail
      refine wp_region_held (S := (fun w' : World => Below (V7.heap.size) V7 w')) (by kernel_rfl) ?_
      change wpAnyH _ _ _ _ _ _ _ _ V7.drew
      have hy : Below V7.heap.size V7 V7.drew := (Below.refl _ _).drew
      have hE0 : Below (V7.heap.size) V7 V7.drew := (Below.refl _ _).drew
      clear hy
      generalize V7.drew = Y10x0 at hE0  ⊢
      have E0 := Lib.hid hE0
      clear hE0
      refine wpAnyH_take (i := 0) (oi := { dst := some 50, op := Op.move (Operand.tmp 15), type := 3, pos := "frame.go:334", after := #[], guard := none }) (v := ?_) rfl (by kernel_rfl) (by kernel_rfl) (by kernel_rfl) (fun _ _ _ h => h) (Or.inl ⟨by rfl, ?_⟩) E0.out ?_
      rotate_left
      · (intro w1 hS; go_simp; try with_reducible rfl)
      simp only [Act.put, List.setIfInBounds_toArray, List.set_cons_zero, List.set_cons_succ]
      refine wpAnyH_take (i := 1) (oi := { dst := some 51, op := Op.move (Operand.tmp 1), type := 22, pos := "frame.go:334", after := #[], guard := none }) (v := ?_) rfl (by kernel_rfl) (by kernel_rfl) (by kernel_rfl) (fun _ _ _ h => h) (Or.inl ⟨by rfl, ?_⟩) E0.out ?_
      rotate_left
      · (intro w1 hS; go_simp; try with_reducible rfl)
      simp only [Act.put, List.setIfInBounds_toArray, List.set_cons_zero, List.set_cons_succ]
      refine wpAnyH_take (i := 2) (oi := { dst := some 52, op := Op.slice 22 (Operand.tmp 51) (some (Operand.const (Value.int IntKind.i64 2))) (some (Operand.const (Value.int IntKind.i64 4))) none, type := 22, pos := "frame.go:334", after := #[{ on := 1, ground := Ground.data }], guard := none }) (v := ?_) rfl (by kernel_rfl) (by kernel_rfl) (by kernel_rfl) (fun _ _ _ h => h) (Or.inl ⟨by rfl, ?_⟩) E0.out ?_
      rotate_left
      · (intro w1 hS; have hW := hS; have q : (2 : Int) ≤ (cap : Int) := (by omega); have q3 : (4 : Int) ≤ (cap : Int) := (by omega); have q4 : (4 : Int) ≤ (n : Int) := (by omega); have q2 : (cap = 2) = False := (eq_false (by omega)); clear hW hS; go_simp; try with_reducible rfl)
      simp only [Act.put, List.setIfInBounds_toArray, List.set_cons_zero, List.set_cons_succ]
      refine wpAnyH_take (i := 3) (oi := { dst := some 53, op := Op.move (Operand.tmp 13), type := 22, pos := "frame.go:334", after := #[], guard := none }) (v := ?_) rfl (by kernel_rfl) (by kernel_rfl) (by kernel_rfl) (fun _ _ _ h => h) (Or.inl ⟨by rfl, ?_⟩) E0.out ?_
      rotate_left
      · (intro w1 hS; go_simp; try with_reducible rfl)
      simp only [Act.put, List.setIfInBounds_toArray, List.set_cons_zero, List.set_cons_succ]
      refine wpAnyH_take (i := 4) (oi := { dst := some 54, op := Op.slice 22 (Operand.tmp 53) (some (Operand.const (Value.int IntKind.i64 2))) (some (Operand.const (Value.int IntKind.i64 4))) none, type := 22, pos := "frame.go:334", after := #[{ on := 3, ground := Ground.data }], guard := none }) (v := ?_) rfl (by kernel_rfl) (by kernel_rfl) (by kernel_rfl) (fun _ _ _ h => h) (Or.inl ⟨by rfl, ?_⟩) E0.out ?_
      rotate_left
      · (intro w1 hS; have hW := hS; have q : (2 : Int) ≤ (cx : Int) := (by omega); have q3 : (4 : Int) ≤ (cx : Int) := (by omega); have q4 : (4 : Int) ≤ (n : Int) := (by omega); have q2 : (cx = 2) = False := (eq_false (by omega)); clear hW hS; go_simp; try with_reducible rfl)
      simp only [Act.put, List.setIfInBounds_toArray, List.set_cons_zero, List.set_cons_succ]
      refine wpAnyH_take (i := 6) (oi := { dst := some 56, op := Op.load 26 (Operand.tmp 8), type := 26, pos := "frame.go:334", after := #[], guard := none }) (v := .agg c1) rfl (by kernel_rfl) (by kernel_rfl) (by kernel_rfl) (fun _ _ _ h => h) (Or.inl ⟨by rfl, ?_⟩) E0.out ?_
      · (intro w1 hS; have hW := hS; exact exec_load 26 (.tmp 8) rfl _ rfl _ (run_blk_load (P := Try.prog) 26 (w.heap.size) _ (N1.out.below hW N1.out.lt) Try.underlying26 rfl I1.out))
      simp only [Act.put, List.setIfInBounds_toArray, List.set_cons_zero, List.set_cons_succ]
      refine wpAnyH_take (i := 8) (oi := { dst := some 58, op := Op.load 26 (Operand.tmp 9), type := 26, pos := "frame.go:334", after := #[], guard := none }) (v := .agg c2) rfl (by kernel_rfl) (by kernel_rfl) (by kernel_rfl) (fun _ _ _ h => h) (Or.inl ⟨by rfl, ?_⟩) E0.out ?_
      · (intro w1 hS; have hW := hS; exact exec_load 26 (.tmp 9) rfl _ rfl _ (run_blk_load (P := Try.prog) 26 (w.heap.size + 1) _ (N2.out.below hW N2.out.lt) Try.underlying26 rfl I2.out))
      simp only [Act.put, List.setIfInBounds_toArray, List.set_cons_zero, List.set_cons_succ]
      refine wpAnyH_ready (rs := [5]) (by kernel_rfl) (by simp) ?_
      refine AllReadyH.cons (o := { dst := some 55, op := Op.call { callee := Callee.value (Operand.func 32), args := #[Operand.tmp 50, Operand.tmp 52, Operand.tmp 54], argTypes := #[3, 22, 22] }, type := 3, pos := "frame.go:334", after := #[{ on := 0, ground := Ground.data }, { on := 2, ground := Ground.data }, { on := 4, ground := Ground.data }], guard := none }) rfl (fun KK hK => ?_) AllReadyH.nil
      go_simp
      refine (CG.out Y10x0 _ _ (H2.out.below E0.out) (HS2.out.below E0.out)).mono ?_
      rintro e Y10x1 ⟨rfl, hy⟩
      have E1 := Lib.hid (E0.out.trans (hy.mono E0.out.size))
      have C1 := Lib.hid E1.out
      clear hy E0
      refine hK.out _ _ C1.out (fun _ => ?_)
      clear hK KK
      refine wpAnyH_mono (S' := (fun w' : World => Below Y10x1.heap.size Y10x1 w')) (fun w1 h => C1.out.trans (h.mono C1.out.size)) _ _ _ _ ?_
      clear C1
      try simp only [Act.put, List.setIfInBounds_toArray, List.set_cons_zero, List.set_cons_succ]
      refine wpAnyH_ready (rs := [7]) (by kernel_rfl) (by simp) ?_
      refine AllReadyH.cons (o := { dst := some 57, op := Op.call { callee := Callee.value (Operand.func 33), args := #[Operand.tmp 56], argTypes := #[26] }, type := 22, pos := "frame.go:334", after := #[{ on := 6, ground := Ground.data }, { on := 5, ground := Ground.chain }], guard := none }) rfl (fun KK hK => ?_) AllReadyH.nil
      go_simp
      refine (CB1.out Y10x1).mono ?_
      rintro e Y10x2 ⟨z1, rfl, oz1, hy⟩
      have E2 := Lib.hid (E1.out.trans (hy.mono E1.out.size))
      have C2 := Lib.hid hy
      have Z1 := Lib.hid (oz1)
      clear oz1
      clear hy E1
      refine hK.out _ _ C2.out (fun _ => ?_)
      clear hK KK
      refine wpAnyH_mono (S' := (fun w' : World => Below Y10x2.heap.size Y10x2 w')) (fun w1 h => C2.out.trans (h.mono C2.out.size)) _ _ _ _ ?_
      clear C2
      try simp only [Act.put, List.setIfInBounds_toArray, List.set_cons_zero, List.set_cons_succ]
      refine wpAnyH_ready (rs := [9]) (by kernel_rfl) (by simp) ?_
      refine AllReadyH.cons (o := { dst := some 59, op := Op.call { callee := Callee.value (Operand.func 33), args := #[Operand.tmp 58], argTypes := #[26] }, type := 22, pos := "frame.go:334", after := #[{ on := 8, ground := Ground.data }, { on := 7, ground := Ground.chain }], guard := none }) rfl (fun KK hK => ?_) AllReadyH.nil
      go_simp
      refine (CB2.out Y10x2).mono ?_
      rintro e Y10x3 ⟨z2, rfl, oz2, hy⟩
      replace Z1 := Lib.hid (row_under Z1.out hy)
      have E3 := Lib.hid (E2.out.trans (hy.mono E2.out.size))
      have C3 := Lib.hid hy
      have Z2o := Lib.hid (oz2)
      clear oz2
      clear hy E2
      refine hK.out _ _ C3.out (fun _ => ?_)
      clear hK KK
      refine wpAnyH_mono (S' := (fun w' : World => Below Y10x3.heap.size Y10x3 w')) (fun w1 h => C3.out.trans (h.mono C3.out.size)) _ _ _ _ ?_
      clear C3
      try simp only [Act.put, List.setIfInBounds_toArray, List.set_cons_zero, List.set_cons_succ]
      refine wpAnyH_ready (rs := [10]) (by kernel_rfl) (by simp) ?_
      refine AllReadyH.cons (o := { dst := some 60, op := Op.call { callee := Callee.value (Operand.func 32), args := #[Operand.tmp 55, Operand.tmp 57, Operand.tmp 59], argTypes := #[3, 22, 22] }, type := 3, pos := "frame.go:334", after := #[{ on := 5, ground := Ground.data }, { on := 7, ground := Ground.data }, { on := 9, ground := Ground.data }, { on := 9, ground := Ground.chain }], guard := none }) rfl (fun KK hK => ?_) AllReadyH.nil
      go_simp
      refine (CH.out Y10x3 _ _ (Rd.own Z1.out) (Rd.own Z2o.out)).mono ?_
      rintro e Y10x4 ⟨rfl, hy⟩
      replace Z1 := Lib.hid (row_under Z1.out hy)
      replace Z2o := Lib.hid (row_under Z2o.out hy)
      have E4 := Lib.hid (E3.out.trans (hy.mono E3.out.size))
      have C4 := Lib.hid hy
      clear hy E3
      refine hK.out _ _ C4.out (fun _ => ?_)
      clear hK KK
      refine wpAnyH_mono (S' := (fun w' : World => Below Y10x4.heap.size Y10x4 w')) (fun w1 h => C4.out.trans (h.mono C4.out.size)) _ _ _ _ ?_
      clear C4
      try simp only [Act.put, List.setIfInBounds_toArray, List.set_cons_zero, List.set_cons_succ]
      refine wpAnyH_take (i := 11) (oi := { dst := some 16, op := Op.assign (Operand.tmp 60), type := 3, pos := "frame.go:334", after := #[{ on := 10, ground := Ground.data }, { on := 10, ground := Ground.chain }, { on := 0, ground := Ground.phase }, { on := 1, ground := Ground.phase }, { on := 2, ground := Ground.phase }, { on := 3, ground := Ground.phase }, { on := 4, ground := Ground.phase }, { on := 5, ground := Ground.phase }, { on := 6, ground := Ground.phase }, { on := 7, ground := Ground.phase }, { on := 8, ground := Ground.phase }, { on := 9, ground := Ground.phase }, { on := 10, ground := Ground.phase }], guard := none }) (v := ?_) rfl (by kernel_rfl) (by kernel_rfl) (by kernel_rfl) (fun _ _ _ h => h) (Or.inl ⟨by rfl, ?_⟩) (Below.refl _ _) ?_
      rotate_left
      · (intro w1 hS; go_simp; try with_reducible rfl)
      simp only [Act.put, List.setIfInBounds_toArray, List.set_cons_zero, List.set_cons_succ]
      refine wpAnyH_done (by kernel_rfl) ?_ _
      have hy := E4.out
      replace K := Lib.hid (K.out.trans (hy.mono K.out.size))
      replace N1 := Lib.hid (N1.out.below hy N1.out.lt)
      replace N2 := Lib.hid (N2.out.below hy N2.out.lt)
      replace NS := Lib.hid (NS.out.below hy NS.out.lt)
      replace O := Lib.hid (row_under O.out hy)
      clear hy E4
      clear Z1 Z2o H2 HS2
      by_cases h0 : pc1v = 0
      · subst h0
        obtain rfl : pcv = 65535 := by have hp := HP.out; simpa using hp
        clear HP g4
        go_wp2_with fail
        refine (CQ.out _ _ _ _ O.out).mono ?_
        rintro e V8 ⟨rfl, og, gr⟩
        replace K := Lib.hid (K.out.grown gr K.out.size (fun k e => by first | (cases e; done) | (cases e; first | exact Nat.le_refl _ | omega)))
        replace N1 := Lib.hid (show Blk _ _ _ _ from (gr.block _ N1.out.lt (by first | (simp; done) | (simp; omega))).trans N1.out)
        replace N2 := Lib.hid (show Blk _ _ _ _ from (gr.block _ N2.out.lt (by first | (simp; done) | (simp; omega))).trans N2.out)
        replace NS := Lib.hid (show Blk _ _ _ _ from (gr.block _ NS.out.lt (by first | (simp; done) | (simp; omega))).trans NS.out)
        replace O := Lib.hid og
        clear og gr
        rw [← HX2.out] at O
        go_wp2
        go_ret
        exact ⟨_, rfl, Rd.own O.out, K.out⟩
      obtain rfl : pcv = pc1v := by rw [HP.out, if_neg (fun h => h0 h.2)]
      have g5 : ((pcv : Int) == 0) = false := by rw [beq_eq_false_iff_ne]; omega
      clear HP h0 g4
      go_wp2_with fail
      refine (CQ.out _ _ _ _ O.out).mono ?_
      rintro e V8 ⟨rfl, og, gr⟩
      replace K := Lib.hid (K.out.grown gr K.out.size (fun k e => by first | (cases e; done) | (cases e; first | exact Nat.le_refl _ | omega)))
      replace N1 := Lib.hid (show Blk _ _ _ _ from (gr.block _ N1.out.lt (by first | (simp; done) | (simp; omega))).trans N1.out)
      replace N2 := Lib.hid (show Blk _ _ _ _ from (gr.block _ N2.out.lt (by first | (simp; done) | (simp; omega))).trans N2.out)
      replace NS := Lib.hid (show Blk _ _ _ _ from (gr.block _ NS.out.lt (by first | (simp; done) | (simp; omega))).trans NS.out)
      replace O := Lib.hid og
      clear og gr
      rw [← HX2.out] at O
      go_wp2
      go_ret
      exact ⟨_, rfl, Rd.own O.out, K.out⟩
    · have g4 : ((p : Int) == 17) = false := by rw [beq_eq_false_iff_ne]; omega
      go_wp2_with fail
      have H2 := Lib.hid (HS1.out.below K.out)
      clear HS2
      have hs2 := (Rd.own O.out).sub 2 2 (by omega)
      rw [HM2.out] at hs2
      have HS2 := Lib.hid hs2
      clear hs2
      go_wp2_with fail
      refine wp_region_held (S := (fun w' : World => Below (V7.heap.size) V7 w')) (by kernel_rfl) ?_
      change wpAnyH _ _ _ _ _ _ _ _ V7.drew
      have hy : Below V7.heap.size V7 V7.drew := (Below.refl _ _).drew
      have hE0 : Below (V7.heap.size) V7 V7.drew := (Below.refl _ _).drew
      clear hy
      generalize V7.drew = Y10x0 at hE0  ⊢
      have E0 := Lib.hid hE0
      clear hE0
      refine wpAnyH_take (i := 0) (oi := { dst := some 50, op := Op.move (Operand.tmp 15), type := 3, pos := "frame.go:334", after := #[], guard := none }) (v := ?_) rfl (by kernel_rfl) (by kernel_rfl) (by kernel_rfl) (fun _ _ _ h => h) (Or.inl ⟨by rfl, ?_⟩) E0.out ?_
      rotate_left
      · (intro w1 hS; go_simp; try with_reducible rfl)
      simp only [Act.put, List.setIfInBounds_toArray, List.set_cons_zero, List.set_cons_succ]
      refine wpAnyH_take (i := 1) (oi := { dst := some 51, op := Op.move (Operand.tmp 1), type := 22, pos := "frame.go:334", after := #[], guard := none }) (v := ?_) rfl (by kernel_rfl) (by kernel_rfl) (by kernel_rfl) (fun _ _ _ h => h) (Or.inl ⟨by rfl, ?_⟩) E0.out ?_
      rotate_left
      · (intro w1 hS; go_simp; try with_reducible rfl)
      simp only [Act.put, List.setIfInBounds_toArray, List.set_cons_zero, List.set_cons_succ]
      refine wpAnyH_take (i := 2) (oi := { dst := some 52, op := Op.slice 22 (Operand.tmp 51) (some (Operand.const (Value.int IntKind.i64 2))) (some (Operand.const (Value.int IntKind.i64 4))) none, type := 22, pos := "frame.go:334", after := #[{ on := 1, ground := Ground.data }], guard := none }) (v := ?_) rfl (by kernel_rfl) (by kernel_rfl) (by kernel_rfl) (fun _ _ _ h => h) (Or.inl ⟨by rfl, ?_⟩) E0.out ?_
      rotate_left
      · (intro w1 hS; have hW := hS; have q : (2 : Int) ≤ (cap : Int) := (by omega); have q3 : (4 : Int) ≤ (cap : Int) := (by omega); have q4 : (4 : Int) ≤ (n : Int) := (by omega); have q2 : (cap = 2) = False := (eq_false (by omega)); clear hW hS; go_simp; try with_reducible rfl)
      simp only [Act.put, List.setIfInBounds_toArray, List.set_cons_zero, List.set_cons_succ]
      refine wpAnyH_take (i := 3) (oi := { dst := some 53, op := Op.move (Operand.tmp 13), type := 22, pos := "frame.go:334", after := #[], guard := none }) (v := ?_) rfl (by kernel_rfl) (by kernel_rfl) (by kernel_rfl) (fun _ _ _ h => h) (Or.inl ⟨by rfl, ?_⟩) E0.out ?_
      rotate_left
      · (intro w1 hS; go_simp; try with_reducible rfl)
      simp only [Act.put, List.setIfInBounds_toArray, List.set_cons_zero, List.set_cons_succ]
      refine wpAnyH_take (i := 4) (oi := { dst := some 54, op := Op.slice 22 (Operand.tmp 53) (some (Operand.const (Value.int IntKind.i64 2))) (some (Operand.const (Value.int IntKind.i64 4))) none, type := 22, pos := "frame.go:334", after := #[{ on := 3, ground := Ground.data }], guard := none }) (v := ?_) rfl (by kernel_rfl) (by kernel_rfl) (by kernel_rfl) (fun _ _ _ h => h) (Or.inl ⟨by rfl, ?_⟩) E0.out ?_
      rotate_left
      · (intro w1 hS; have hW := hS; have q : (2 : Int) ≤ (cx : Int) := (by omega); have q3 : (4 : Int) ≤ (cx : Int) := (by omega); have q4 : (4 : Int) ≤ (n : Int) := (by omega); have q2 : (cx = 2) = False := (eq_false (by omega)); clear hW hS; go_simp; try with_reducible rfl)
      simp only [Act.put, List.setIfInBounds_toArray, List.set_cons_zero, List.set_cons_succ]
      refine wpAnyH_take (i := 6) (oi := { dst := some 56, op := Op.load 26 (Operand.tmp 8), type := 26, pos := "frame.go:334", after := #[], guard := none }) (v := .agg c1) rfl (by kernel_rfl) (by kernel_rfl) (by kernel_rfl) (fun _ _ _ h => h) (Or.inl ⟨by rfl, ?_⟩) E0.out ?_
      · (intro w1 hS; have hW := hS; exact exec_load 26 (.tmp 8) rfl _ rfl _ (run_blk_load (P := Try.prog) 26 (w.heap.size) _ (N1.out.below hW N1.out.lt) Try.underlying26 rfl I1.out))
      simp only [Act.put, List.setIfInBounds_toArray, List.set_cons_zero, List.set_cons_succ]
      refine wpAnyH_take (i := 8) (oi := { dst := some 58, op := Op.load 26 (Operand.tmp 9), type := 26, pos := "frame.go:334", after := #[], guard := none }) (v := .agg c2) rfl (by kernel_rfl) (by kernel_rfl) (by kernel_rfl) (fun _ _ _ h => h) (Or.inl ⟨by rfl, ?_⟩) E0.out ?_
      · (intro w1 hS; have hW := hS; exact exec_load 26 (.tmp 9) rfl _ rfl _ (run_blk_load (P := Try.prog) 26 (w.heap.size + 1) _ (N2.out.below hW N2.out.lt) Try.underlying26 rfl I2.out))
      simp only [Act.put, List.setIfInBounds_toArray, List.set_cons_zero, List.set_cons_succ]
      refine wpAnyH_ready (rs := [5]) (by kernel_rfl) (by simp) ?_
      refine AllReadyH.cons (o := { dst := some 55, op := Op.call { callee := Callee.value (Operand.func 32), args := #[Operand.tmp 50, Operand.tmp 52, Operand.tmp 54], argTypes := #[3, 22, 22] }, type := 3, pos := "frame.go:334", after := #[{ on := 0, ground := Ground.data }, { on := 2, ground := Ground.data }, { on := 4, ground := Ground.data }], guard := none }) rfl (fun KK hK => ?_) AllReadyH.nil
      go_simp
      refine (CG.out Y10x0 _ _ (H2.out.below E0.out) (HS2.out.below E0.out)).mono ?_
      rintro e Y10x1 ⟨rfl, hy⟩
      have E1 := Lib.hid (E0.out.trans (hy.mono E0.out.size))
      have C1 := Lib.hid E1.out
      clear hy E0
      refine hK.out _ _ C1.out (fun _ => ?_)
      clear hK KK
      refine wpAnyH_mono (S' := (fun w' : World => Below Y10x1.heap.size Y10x1 w')) (fun w1 h => C1.out.trans (h.mono C1.out.size)) _ _ _ _ ?_
      clear C1
      try simp only [Act.put, List.setIfInBounds_toArray, List.set_cons_zero, List.set_cons_succ]
      refine wpAnyH_ready (rs := [7]) (by kernel_rfl) (by simp) ?_
      refine AllReadyH.cons (o := { dst := some 57, op := Op.call { callee := Callee.value (Operand.func 33), args := #[Operand.tmp 56], argTypes := #[26] }, type := 22, pos := "frame.go:334", after := #[{ on := 6, ground := Ground.data }, { on := 5, ground := Ground.chain }], guard := none }) rfl (fun KK hK => ?_) AllReadyH.nil
      go_simp
      refine (CB1.out Y10x1).mono ?_
      rintro e Y10x2 ⟨z1, rfl, oz1, hy⟩
      have E2 := Lib.hid (E1.out.trans (hy.mono E1.out.size))
      have C2 := Lib.hid hy
      have Z1 := Lib.hid (oz1)
      clear oz1
      clear hy E1
      refine hK.out _ _ C2.out (fun _ => ?_)
      clear hK KK
      refine wpAnyH_mono (S' := (fun w' : World => Below Y10x2.heap.size Y10x2 w')) (fun w1 h => C2.out.trans (h.mono C2.out.size)) _ _ _ _ ?_
      clear C2
      try simp only [Act.put, List.setIfInBounds_toArray, List.set_cons_zero, List.set_cons_succ]
      refine wpAnyH_ready (rs := [9]) (by kernel_rfl) (by simp) ?_
      refine AllReadyH.cons (o := { dst := some 59, op := Op.call { callee := Callee.value (Operand.func 33), args := #[Operand.tmp 58], argTypes := #[26] }, type := 22, pos := "frame.go:334", after := #[{ on := 8, ground := Ground.data }, { on := 7, ground := Ground.chain }], guard := none }) rfl (fun KK hK => ?_) AllReadyH.nil
      go_simp
      refine (CB2.out Y10x2).mono ?_
      rintro e Y10x3 ⟨z2, rfl, oz2, hy⟩
      replace Z1 := Lib.hid (row_under Z1.out hy)
      have E3 := Lib.hid (E2.out.trans (hy.mono E2.out.size))
      have C3 := Lib.hid hy
      have Z2o := Lib.hid (oz2)
      clear oz2
      clear hy E2
      refine hK.out _ _ C3.out (fun _ => ?_)
      clear hK KK
      refine wpAnyH_mono (S' := (fun w' : World => Below Y10x3.heap.size Y10x3 w')) (fun w1 h => C3.out.trans (h.mono C3.out.size)) _ _ _ _ ?_
      clear C3
      try simp only [Act.put, List.setIfInBounds_toArray, List.set_cons_zero, List.set_cons_succ]
      refine wpAnyH_ready (rs := [10]) (by kernel_rfl) (by simp) ?_
      refine AllReadyH.cons (o := { dst := some 60, op := Op.call { callee := Callee.value (Operand.func 32), args := #[Operand.tmp 55, Operand.tmp 57, Operand.tmp 59], argTypes := #[3, 22, 22] }, type := 3, pos := "frame.go:334", after := #[{ on := 5, ground := Ground.data }, { on := 7, ground := Ground.data }, { on := 9, ground := Ground.data }, { on := 9, ground := Ground.chain }], guard := none }) rfl (fun KK hK => ?_) AllReadyH.nil
      go_simp
      refine (CH.out Y10x3 _ _ (Rd.own Z1.out) (Rd.own Z2o.out)).mono ?_
      rintro e Y10x4 ⟨rfl, hy⟩
      replace Z1 := Lib.hid (row_under Z1.out hy)
      replace Z2o := Lib.hid (row_under Z2o.out hy)
      have E4 := Lib.hid (E3.out.trans (hy.mono E3.out.size))
      have C4 := Lib.hid hy
      clear hy E3
      refine hK.out _ _ C4.out (fun _ => ?_)
      clear hK KK
      refine wpAnyH_mono (S' := (fun w' : World => Below Y10x4.heap.size Y10x4 w')) (fun w1 h => C4.out.trans (h.mono C4.out.size)) _ _ _ _ ?_
      clear C4
      try simp only [Act.put, List.setIfInBounds_toArray, List.set_cons_zero, List.set_cons_succ]
      refine wpAnyH_take (i := 11) (oi := { dst := some 16, op := Op.assign (Operand.tmp 60), type := 3, pos := "frame.go:334", after := #[{ on := 10, ground := Ground.data }, { on := 10, ground := Ground.chain }, { on := 0, ground := Ground.phase }, { on := 1, ground := Ground.phase }, { on := 2, ground := Ground.phase }, { on := 3, ground := Ground.phase }, { on := 4, ground := Ground.phase }, { on := 5, ground := Ground.phase }, { on := 6, ground := Ground.phase }, { on := 7, ground := Ground.phase }, { on := 8, ground := Ground.phase }, { on := 9, ground := Ground.phase }, { on := 10, ground := Ground.phase }], guard := none }) (v := ?_) rfl (by kernel_rfl) (by kernel_rfl) (by kernel_rfl) (fun _ _ _ h => h) (Or.inl ⟨by rfl, ?_⟩) (Below.refl _ _) ?_
      rotate_left
      · (intro w1 hS; go_simp; try with_reducible rfl)
      simp only [Act.put, List.setIfInBounds_toArray, List.set_cons_zero, List.set_cons_succ]
      refine wpAnyH_done (by kernel_rfl) ?_ _
      have hy := E4.out
      replace K := Lib.hid (K.out.trans (hy.mono K.out.size))
      replace N1 := Lib.hid (N1.out.below hy N1.out.lt)
      replace N2 := Lib.hid (N2.out.below hy N2.out.lt)
      replace NS := Lib.hid (NS.out.below hy NS.out.lt)
      replace O := Lib.hid (row_under O.out hy)
      clear hy E4
      clear Z1 Z2o H2 HS2
      obtain rfl : pcv = pc1v := by rw [HP.out, if_neg (fun h => h17 h.1)]
      clear HP h17
      go_wp2_with fail
      refine (CQ.out _ _ _ _ O.out).mono ?_
      rintro e V8 ⟨rfl, og, gr⟩
      replace K := Lib.hid (K.out.grown gr K.out.size (fun k e => by first | (cases e; done) | (cases e; first | exact Nat.le_refl _ | omega)))
      replace N1 := Lib.hid (show Blk _ _ _ _ from (gr.block _ N1.out.lt (by first | (simp; done) | (simp; omega))).trans N1.out)
      replace N2 := Lib.hid (show Blk _ _ _ _ from (gr.block _ N2.out.lt (by first | (simp; done) | (simp; omega))).trans N2.out)
      replace NS := Lib.hid (show Blk _ _ _ _ from (gr.block _ NS.out.lt (by first | (simp; done) | (simp; omega))).trans NS.out)
      replace O := Lib.hid og
      clear og gr
      rw [← HX2.out] at O
      go_wp2
      go_ret
      exact ⟨_, rfl, Rd.own O.out, K.out⟩

theorem rport_any (p : Nat) (v : Value) (zs : List Nat) (tp : Nat) (v1 : Bool) (F : List Nat) (v2 : Bool) (D : List Nat) (w : World) (hr : Rd w v (nus .u8 zs)) (hb : ∀ c ∈ zs, c < 256) (hz : zs.length ≤ 3000) (ht : tp < 65536)
    (hF : F.length = 16) (hD : D.length = 16) (hbF : ∀ c ∈ F, c < 256) (hbD : ∀ c ∈ D, c < 256) :
    Calls Try.prog 14 #[.int .u8 (p : Int), v, .int .i64 (tp : Int), adr v1 F, adr v2 D] w fun e w' => ∃ x, e = .returned x ∧ Rd w' x (nus .u8 (pOut p zs tp v1 F v2 D)) ∧ Below w.heap.size w w' := by
  unfold pOut
  by_cases h : fs p zs = 0 ∧ v1 = v2
  · obtain ⟨h1, rfl⟩ := h
    rw [if_pos ⟨h1, rfl⟩]
    exact rport_yes p v zs tp v1 F D w hr hb h1 hz ht hF hD hbF hbD
  · rw [if_neg h]
    exact (rport_no p v zs tp v1 F v2 D w hr hb (by by_cases h1 : fs p zs = 0; exact .inr (fun e => h ⟨h1, e⟩); exact .inl h1)).mono fun _ _ ⟨e, b⟩ => ⟨_, e, rd_nil _ _, b⟩
end Go.Proofs.Ytbhiknojjmdbiaa

/- The contract of octet.Append at 16 binary digits. -/
namespace Go.Proofs.Ytbhiknojjmdbiaa
open Go.RowKit

set_option maxHeartbeats 400000 in
theorem app16_any (va : Value) (zs : List Nat) (v : Nat) (w : World) (hr : Rd w va (nus .u8 zs)) (hz : zs.length ≤ 140737488351232) (hv : v < 65536) :
    Calls Try.prog 51 #[va, .int .u16 v] w fun e w' => ∃ x, e = .returned x ∧ w'.ownsRow w.heap.size 5 1 x (zs.length + 2) (nus .u8 (zs ++ bg 2 v)) ∧ Below w.heap.size w w' := by
  obtain ⟨i0, hi, hz0, hz1, hz2⟩ := info_parts Try.info5
  obtain ⟨a, cap, rfl, hlc, hl, hx⟩ := hr
  rw [nus_length] at hlc hx ⊢
  obtain ⟨len, hlen⟩ : ∃ len, len = zs.length := ⟨_, rfl⟩
  rw [← hlen] at hlc hx hz ⊢
  have HL := Lib.hid hlen
  have HX := Lib.hid hx
  clear hlen hx
  unfold maxLen at hl
  go_enter Try.func51, Try.ntmps51
  have hbase : w.heap.size ≤ w.heap.size := Nat.le_refl _
  go_wp2_with (first
    | (go_at_call 44; refine (size16_any _).mono ?_; rintro e w' ⟨rfl, rfl⟩)
    | (at_make; refine wpList_make_full _ rfl _ _ 22 rfl w.heap.size 5 i0 (.int .u8 0) 1 Try.underlying22 hi hz0 hz1 .i64 .i64 _ _ (len + 2) rfl rfl ?c1 ?c2 ?c3 ?c4 hbase ?_))
  case c1 => omega
  case c2 => omega
  case c3 => rw [hz2]; omega
  case c4 => unfold maxLen; omega
  intro w1 hown hgr
  have hb1 : Below w.heap.size w w1 := (Below.refl _ _).grown hgr (Nat.le_refl _) (fun k hk => by cases hk)
  obtain ⟨hh, _⟩ := own_heap hown
  have hrd : Rd w1 (.slice a len cap) (nus .u8 zs) := (show Rd w (.slice a len cap) (nus .u8 zs) from ⟨a, cap, by rw [nus_length, HL.out], by rw [nus_length, ← HL.out]; exact hlc, hl, by rw [nus_length, ← HL.out]; exact HX.out⟩).below hb1
  have hsrc := Lib.hid hrd.src
  have HH := Lib.hid hh
  have HB1 := Lib.hid hb1
  clear hh hown hgr hrd hb1
  go_wp2_with (with_reducible refine wpList_copy_splice rfl (.tmp 11) (.tmp 12) 22 22 rfl 5 Try.underlying22 Try.size5 _ _ _ _ _ _ rfl rfl w.heap.size 0 _ 5 HH.out (nus .u8 zs) ?d1 ?d2 ?d3 (oneCell_nus _ _) w.heap.size w HB1.out (Nat.le_refl _) ?_)
  case d1 => rw [nus_length, ← HL.out]; exact (Nat.min_eq_left (by omega)).symm
  case d2 => exact hsrc.out
  case d3 => rw [nus_length, ← HL.out, size_made]; omega
  intro w2 h2 hb2
  have hh2 := h2.out
  rw [splice_made zs 2 _ HL.out] at hh2
  have hown2 := own_of_heap (base := w.heap.size) (n := len + 2) hh2 (Nat.le_refl _) (by rw [nus_length, List.length_append, List.length_replicate, ← HL.out]) (by unfold maxLen; omega)
  have HO := Lib.hid hown2
  have HB2 := Lib.hid hb2
  clear hh2 hown2 h2 hb2 hsrc HH HB1 HX
  go_wp2_with (go_at_call 25; (refine (put16_yes w.heap.size (len + 2) (len + 2) w.heap.size len v _ _ HO.out (by unfold maxLen; omega) (Nat.le_refl _) hv).mono ?_); rintro e w3 ⟨rfl, hown3, hgr3⟩)
  go_ret
  refine ⟨_, rfl, ?_, HB2.out.grown hgr3 HB2.out.size (fun k hk => by cases hk; exact Nat.le_refl _)⟩
  rw [putRow_app zs 2 v len HL.out] at hown3
  exact hown3
end Go.Proofs.Ytbhiknojjmdbiaa

/- The contracts of octet.size, octet.fits and octet.Get at the size of 32 binary digits. -/
namespace Go.Proofs.Ytbhiknojjmdbiaa
open Go.RowKit

set_option maxRecDepth 10000 in
set_option maxHeartbeats 400000 in
theorem len64_32 (w : World) :
    Calls Try.prog 57 #[.int .u64 4294967295] w fun e w' => e = .returned (.int .i64 32) ∧ w = w' := by
  go_enter Try.func57, Try.ntmps57
  go_wp2_with fail
  go_ret
  exact ⟨by kernel_rfl, rfl⟩

set_option maxRecDepth 10000 in
set_option maxHeartbeats 400000 in
theorem size32_any (w : World) :
    Calls Try.prog 60 #[] w fun e w' => e = .returned (.int .i64 4) ∧ w = w' := by
  go_enter Try.func60, Try.ntmps60
  go_wp2_with (go_at_call 57; refine (len64_32 _).mono ?_; rintro e w' ⟨rfl, rfl⟩)
  go_ret
  exact ⟨rfl, rfl⟩

set_option maxHeartbeats 400000 in
theorem fits32_neg (a : Option Addr) (len cap : Nat) (at0 : Int) (w : World) (h0 : at0 < 0) :
    Calls Try.prog 65 #[.slice a len cap, .int .i64 at0] w fun e w' => e = .returned (.bool false) ∧ w = w' := by
  go_enter Try.func65, Try.ntmps65
  go_wp2_with (go_at_call 60; refine (size32_any _).mono ?_; rintro e w' ⟨rfl, rfl⟩)
  go_ret
  exact ⟨rfl, rfl⟩

set_option maxHeartbeats 400000 in
theorem fits32_pos (a : Option Addr) (len cap : Nat) (at0 : Int) (w : World) (hl : len ≤ maxLen) (h0 : 0 ≤ at0) :
    Calls Try.prog 65 #[.slice a len cap, .int .i64 at0] w fun e w' => e = .returned (.bool (decide (at0 ≤ (len : Int) - 4))) ∧ w = w' := by
  unfold maxLen at hl
  go_enter Try.func65, Try.ntmps65
  go_wp2_with (go_at_call 60; refine (size32_any _).mono ?_; rintro e w' ⟨rfl, rfl⟩)
  go_ret
  exact ⟨rfl, rfl⟩
end Go.Proofs.Ytbhiknojjmdbiaa

/- The contract of octet.Put at 32 binary digits, into a row of the call that called it. -/
namespace Go.Proofs.Ytbhiknojjmdbiaa
open Go.RowKit

set_option maxHeartbeats 400000 in
theorem put32_yes (g n cap base : Nat) (k v : Nat) (zs : List Nat) (w : World) (hown : w.ownsRow base 5 1 (.slice (some ⟨g, 0, none⟩) n cap) n (nus .u8 zs)) (hn : n ≤ maxLen) (hk : k + 4 ≤ n) (hv : v < 4294967296) :
    Calls Try.prog 61 #[.slice (some ⟨g, 0, none⟩) n cap, .int .i64 k, .int .u32 v] w fun e w' => e = .returned (.bool true) ∧ w'.ownsRow base 5 1 (.slice (some ⟨g, 0, none⟩) n cap) n (nus .u8 (putRow zs k 4 v 4)) ∧ w.grownBy w' (some g) := by
  have hzl : zs.length = n := by have := hown.1; simpa [nus_length] using this
  unfold maxLen at hn
  have hfit : decide ((k : Int) ≤ (n : Int) - 4) = true := by simp; omega
  have HO := Lib.hid hown
  have HZ := Lib.hid hzl
  clear hown hzl
  go_enter Try.func61, Try.ntmps61
  go_wp2_with (first
    | (go_at_call 65; refine (fits32_pos _ _ _ _ _ (by unfold maxLen; omega) (by omega)).mono ?_; rintro e w' ⟨rfl, rfl⟩; rw [hfit])
    | (go_at_call 60; refine (size32_any _).mono ?_; rintro e w' ⟨rfl, rfl⟩))
  go_loopw [7, 8] (fun r i wr => ∃ j : Nat, j ≤ 4 ∧ r = .int .u64 ((v / 256 ^ j : Nat) : Int) ∧ i = .int .i64 ((k : Int) + 4 - 1 - j) ∧ wr.ownsRow base 5 1 (.slice (some ⟨g, 0, none⟩) n cap) n (nus .u8 (putRow zs k 4 v j)) ∧ w.grownBy wr (some g)) (fun _ i _ => (intOf i + 1 - k).toNat)
  case atStart => exact ⟨0, by omega, by simp, by simp, by rw [putRow_zero]; exact HO.out, World.grownBy.refl _ _⟩
  case round =>
    obtain ⟨j, hj, rfl, rfl, hown, hgr⟩ := hrel
    by_cases h1 : j < 4
    · obtain ⟨r, hr⟩ : ∃ r, r = v / 256 ^ j := ⟨_, rfl⟩
      obtain ⟨p, hp⟩ : ∃ p : Nat, (k : Int) + 4 - 1 - j = p := ⟨k + 4 - 1 - j, by omega⟩
      have hpk : k ≤ p ∧ p < k + 4 := by omega
      have hrv : r < 18446744073709551616 := by have := Nat.div_le_self v (256 ^ j); omega
      have hcell := hown.cellAt p (by omega)
      rw [nus_get _ _ _ (by rw [putRow_length _ _ _ _ _ (by rw [HZ.out]; exact hk) hj, HZ.out]; omega)] at hcell
      have hfz := hown.frozenAt p
      have hst := hown.stored p (.int .u8 ((r % 256 : Nat) : Int))
      have hstep := putRow_step zs k 4 v j (by rw [HZ.out]; exact hk) h1
      rw [← hr, show k + 4 - 1 - j = p from by omega] at hstep
      rw [nus_set, hstep] at hst
      have hr2 : r / 256 = v / 256 ^ (j + 1) := by rw [hr, Nat.div_div_eq_div_mul, Nat.pow_succ]
      rw [← hr, hp]
      obtain ⟨x, hx⟩ : ∃ x, x = (putRow zs k 4 v j).getD p 0 := ⟨_, rfl⟩
      rw [← hx] at hcell
      have HS := Lib.hid hst
      have HP := Lib.hid hp
      have HR := Lib.hid hr2
      clear hown hst hstep hp hr hr2 hx
      go_wp2
      go_roundw
      case rel => exact ⟨j + 1, by omega, by rw [← HR.out]; go_num, by have := HP.out; go_num, HS.out.1, grownBy_trans hgr HS.out.2⟩
      case measure => have := HP.out; simp [intOf]; omega
    · obtain rfl : j = 4 := by omega
      go_wp2
      go_ret
      exact ⟨rfl, hown, hgr⟩
set_option maxHeartbeats 400000 in
theorem put32_no (a : Option Addr) (len cap : Nat) (at0 v : Int) (w : World) (hl : len ≤ maxLen) (h : at0 < 0 ∨ (len : Int) < at0 + 4) :
    Calls Try.prog 61 #[.slice a len cap, .int .i64 at0, .int .u32 v] w fun e w' => e = .returned (.bool false) ∧ w = w' := by
  by_cases h0 : at0 < 0
  · go_enter Try.func61, Try.ntmps61
    go_wp2_with (go_at_call 65; refine (fits32_neg _ _ _ _ _ (by omega)).mono ?_; rintro e w' ⟨rfl, rfl⟩)
    go_ret
    exact ⟨rfl, rfl⟩
  · have hfit : decide (at0 ≤ (len : Int) - 4) = false := by simp; omega
    go_enter Try.func61, Try.ntmps61
    go_wp2_with (go_at_call 65; refine (fits32_pos _ _ _ _ _ hl (by omega)).mono ?_; rintro e w' ⟨rfl, rfl⟩; rw [hfit])
    go_ret
    exact ⟨rfl, rfl⟩
end Go.Proofs.Ytbhiknojjmdbiaa

/- The contract of octet.Append at 32 binary digits. -/
namespace Go.Proofs.Ytbhiknojjmdbiaa
open Go.RowKit

set_option maxHeartbeats 400000 in
theorem app32_any (va : Value) (zs : List Nat) (v : Nat) (w : World) (hr : Rd w va (nus .u8 zs)) (hz : zs.length ≤ 140737488351232) (hv : v < 4294967296) :
    Calls Try.prog 50 #[va, .int .u32 v] w fun e w' => ∃ x, e = .returned x ∧ w'.ownsRow w.heap.size 5 1 x (zs.length + 4) (nus .u8 (zs ++ bg 4 v)) ∧ Below w.heap.size w w' := by
  obtain ⟨i0, hi, hz0, hz1, hz2⟩ := info_parts Try.info5
  obtain ⟨a, cap, rfl, hlc, hl, hx⟩ := hr
  rw [nus_length] at hlc hx ⊢
  obtain ⟨len, hlen⟩ : ∃ len, len = zs.length := ⟨_, rfl⟩
  rw [← hlen] at hlc hx hz ⊢
  have HL := Lib.hid hlen
  have HX := Lib.hid hx
  clear hlen hx
  unfold maxLen at hl
  go_enter Try.func50, Try.ntmps50
  have hbase : w.heap.size ≤ w.heap.size := Nat.le_refl _
  go_wp2_with (first
    | (go_at_call 60; refine (size32_any _).mono ?_; rintro e w' ⟨rfl, rfl⟩)
    | (at_make; refine wpList_make_full _ rfl _ _ 22 rfl w.heap.size 5 i0 (.int .u8 0) 1 Try.underlying22 hi hz0 hz1 .i64 .i64 _ _ (len + 4) rfl rfl ?c1 ?c2 ?c3 ?c4 hbase ?_))
  case c1 => omega
  case c2 => omega
  case c3 => rw [hz2]; omega
  case c4 => unfold maxLen; omega
  intro w1 hown hgr
  have hb1 : Below w.heap.size w w1 := (Below.refl _ _).grown hgr (Nat.le_refl _) (fun k hk => by cases hk)
  obtain ⟨hh, _⟩ := own_heap hown
  have hrd : Rd w1 (.slice a len cap) (nus .u8 zs) := (show Rd w (.slice a len cap) (nus .u8 zs) from ⟨a, cap, by rw [nus_length, HL.out], by rw [nus_length, ← HL.out]; exact hlc, hl, by rw [nus_length, ← HL.out]; exact HX.out⟩).below hb1
  have hsrc := Lib.hid hrd.src
  have HH := Lib.hid hh
  have HB1 := Lib.hid hb1
  clear hh hown hgr hrd hb1
  go_wp2_with (with_reducible refine wpList_copy_splice rfl (.tmp 11) (.tmp 12) 22 22 rfl 5 Try.underlying22 Try.size5 _ _ _ _ _ _ rfl rfl w.heap.size 0 _ 5 HH.out (nus .u8 zs) ?d1 ?d2 ?d3 (oneCell_nus _ _) w.heap.size w HB1.out (Nat.le_refl _) ?_)
  case d1 => rw [nus_length, ← HL.out]; exact (Nat.min_eq_left (by omega)).symm
  case d2 => exact hsrc.out
  case d3 => rw [nus_length, ← HL.out, size_made]; omega
  intro w2 h2 hb2
  have hh2 := h2.out
  rw [splice_made zs 4 _ HL.out] at hh2
  have hown2 := own_of_heap (base := w.heap.size) (n := len + 4) hh2 (Nat.le_refl _) (by rw [nus_length, List.length_append, List.length_replicate, ← HL.out]) (by unfold maxLen; omega)
  have HO := Lib.hid hown2
  have HB2 := Lib.hid hb2
  clear hh2 hown2 h2 hb2 hsrc HH HB1 HX
  go_wp2_with (go_at_call 61; (refine (put32_yes w.heap.size (len + 4) (len + 4) w.heap.size len v _ _ HO.out (by unfold maxLen; omega) (Nat.le_refl _) hv).mono ?_); rintro e w3 ⟨rfl, hown3, hgr3⟩)
  go_ret
  refine ⟨_, rfl, ?_, HB2.out.grown hgr3 HB2.out.size (fun k hk => by cases hk; exact Nat.le_refl _)⟩
  rw [putRow_app zs 4 v len HL.out] at hown3
  exact hown3
end Go.Proofs.Ytbhiknojjmdbiaa

