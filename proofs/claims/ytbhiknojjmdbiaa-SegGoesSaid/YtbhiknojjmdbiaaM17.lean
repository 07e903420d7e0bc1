/- Texts that the walks of this seat lean on, put together: each has its own remark below. -/
import Derived.Lib.SlBytesConst
import Derived.Laws.BytesArg
import Derived.Test.YtbhiknojjmdbiaaM01
import Derived.Test.YtbhiknojjmdbiaaM10
import Derived.Test.YtbhiknojjmdbiaaM14
import Derived.Test.YtbhiknojjmdbiaaM15
import Derived.Test.YtbhiknojjmdbiaaM16

/- bazaarlaw7.of: the segment of a frame that is built. -/
namespace Go.Proofs.Ytbhiknojjmdbiaa
open Go.RowKit

theorem build_any (p : Nat) (hp : p = 6 ∨ p = 17) (v : Bool) (sb db : List Nat) (sp dp f pad : Nat) (a : Option Addr) (la ca : Nat) (zs : List Nat) (tag bare : Bool) (w : World) (hr : Rd w (.slice a la ca) (nus .u8 zs)) (hL : zs.length = la) (hna : a = none → ca = 0) (hb : ∀ c ∈ zs, c < 256) (hz : la ≤ 2000)
    (hl1 : sb.length = 16) (hl2 : db.length = 16) (hb1 : ∀ c ∈ sb, c < 256) (hb2 : ∀ c ∈ db, c < 256) (hv1 : vldA v sb = true) (hv2 : vldA v db = true) (hsp : sp < 65536) (hdp : dp < 65536) (hf : f < 256) (hpad : pad ≤ 100) :
    Calls Try.prog 37 #[.agg (kcells p (cellsA v sb) (cellsA v db) sp dp), .int .u8 (f : Int), .slice a la ca, .bool tag, .bool bare, .int .i64 (pad : Int)] w fun e w' => ∃ x n, e = .returned x ∧ w'.ownsRow w.heap.size 5 1 x n (nus .u8 (frmB v sb db p sp dp f zs tag bare pad)) ∧ Below w.heap.size w w' := by
  rcases hp with rfl | rfl
  · cases v
    · exact build_t4 sb db sp dp f pad a la ca zs tag bare w hr hL hna hb hz hl1 hl2 hb1 hb2 hv1 hv2 hsp hdp hf hpad
    · exact build_t6 sb db sp dp f pad a la ca zs tag bare w hr hL hna hb hz hl1 hl2 hb1 hb2 hv1 hv2 hsp hdp hf hpad
  · cases v <;> cases bare
    · exact build_u4 sb db sp dp f pad a la ca zs tag w hr hL hna hb hz hl1 hl2 hb1 hb2 hv1 hv2 hsp hdp hf hpad
    · exact build_b4 sb db sp dp f pad a la ca zs tag w hr hL hna hb hz hl1 hl2 hb1 hb2 hv1 hv2 hsp hdp hf hpad
    · exact build_u6 sb db sp dp f pad a la ca zs tag w hr hL hna hb hz hl1 hl2 hb1 hb2 hv1 hv2 hsp hdp hf hpad
    · exact build_b6 sb db sp dp f pad a la ca zs tag w hr hL hna hb hz hl1 hl2 hb1 hb2 hv1 hv2 hsp hdp hf hpad
theorem frmB_lt (v : Bool) (S D : List Nat) (p sp dp f : Nat) (data : List Nat) (tag bare : Bool) (pad : Nat) (hp : p < 256) (_hS : S.length = 16) (_hD : D.length = 16) (hb1 : ∀ c ∈ S, c < 256) (hb2 : ∀ c ∈ D, c < 256) (hf : f < 256) (hd : ∀ c ∈ data, c < 256) :
    ∀ c ∈ frmB v S D p sp dp f data tag bare pad, c < 256 := by
  intro c hc
  unfold frmB at hc
  simp only [List.mem_append] at hc
  rcases hc with ((h | h) | h) | h
  · unfold ethB at h; cases tag <;> cases v <;> simp at h <;> omega
  · unfold headB at h
    cases v with
    | true => exact mk6_lt S D p _ hb1 hb2 hp c h
    | false => exact ov_lt _ _ _ (mk0_lt (S.take 4) (D.take 4) p _ (fun c hc => hb1 c (List.mem_of_mem_take hc)) (fun c hc => hb2 c (List.mem_of_mem_take hc)) hp) (bg_lt 2 _) c h
  · exact segB_lt p v S D sp dp f data bare hf hd c h
  · have := (List.mem_replicate.1 h).2; omega

set_option maxRecDepth 100000 in
set_option maxHeartbeats 4000000 in
theorem of_any (p : Nat) (hp : p = 6 ∨ p = 17) (v : Bool) (sb db : List Nat) (sp dp : Nat) (a : Option Addr) (la ca : Nat) (zs : List Nat) (bare : Bool) (w : World) (hr : Rd w (.slice a la ca) (nus .u8 zs)) (hL : zs.length = la) (hna : a = none → ca = 0) (hb : ∀ c ∈ zs, c < 256) (hz : la ≤ 1500)
    (hl1 : sb.length = 16) (hl2 : db.length = 16) (hb1 : ∀ c ∈ sb, c < 256) (hb2 : ∀ c ∈ db, c < 256) (hv1 : vldA v sb = true) (hv2 : vldA v db = true) (hsp : sp < 65536) (hdp : dp < 65536) :
    Calls Try.prog 19 #[.agg (kcells p (cellsA v sb) (cellsA v db) sp dp), .slice a la ca, .bool bare] w fun e w' => ∃ g c, e = .returned (.slice (some ⟨g, aheadB v, none⟩) (segB p v sb db sp dp 2 zs bare).length (c - aheadB v)) ∧
      w'.ownsRow w.heap.size 5 1 (.slice (some ⟨g, 0, none⟩) (aheadB v + (segB p v sb db sp dp 2 zs bare).length) c) (aheadB v + (segB p v sb db sp dp 2 zs bare).length) (nus .u8 (frmB v sb db p sp dp 2 zs false bare 0)) ∧ Below w.heap.size w w' := by
  have T := told v sb db p sp dp 2 zs bare hp hl1 hl2 hv1 hv2 (by omega) hsp hdp
  have hfl := frmB_lt v sb db p sp dp 2 zs false bare 0 (by omega) hl1 hl2 hb1 hb2 (by omega) hb
  have hsl := segB_len p hp v sb db sp dp 2 zs bare
  have hz20 : 8 ≤ hsz p ∧ hsz p ≤ 20 := by unfold hsz; split <;> omega
  have CB := Lib.hid (fun W (h : Rd W (.slice a la ca) (nus .u8 zs)) => build_any p hp v sb db sp dp 2 0 a la ca zs false bare W h hL hna hb (by omega) hl1 hl2 hb1 hb2 hv1 hv2 hsp hdp (by omega) (by omega))
  have ha54 : 34 ≤ aheadB v ∧ aheadB v ≤ 54 := by unfold aheadB; split <;> omega
  have zS : (cellsA v sb).size = 17 := by rw [cellsA_size, hl1]
  have zD : (cellsA v db).size = 17 := by rw [cellsA_size, hl2]
  have yk := kcells_size p (cellsA v sb) (cellsA v db) sp dp zS zD
  have ak := kcells_all p (cellsA v sb) (cellsA v db) sp dp (cellsA_all _ _) (cellsA_all _ _)
  obtain ⟨n, hn⟩ : ∃ n, n = (segB p v sb db sp dp 2 zs bare).length := ⟨_, rfl⟩
  have tl := T.len
  have tv := T.vw
  have tr := T.rr
  rw [← hn] at tl tv hsl ⊢
  have CR := Lib.hid (fun W z (h : Rd W z (nus .u8 (frmB v sb db p sp dp 2 zs false bare 0))) => rframe_any z _ W h hfl (by omega))
  rw [tr] at CR
  have yv := vcells_size v 14 (aheadB v) (aheadB v + n) (kcells p (cellsA v sb) (cellsA v db) sp dp) (if p = 6 then 2 else 0) yk
  have av := vcells_all v 14 (aheadB v) (aheadB v + n) (kcells p (cellsA v sb) (cellsA v db) sp dp) (if p = 6 then 2 else 0) ak
  rw [← tv] at yv av
  have g2 : (vw (frmB v sb db p sp dp 2 zs false bare 0))[2]? = some (.int .i64 (aheadB v : Nat)) := by rw [tv]; rfl
  have g3 : (vw (frmB v sb db p sp dp 2 zs false bare 0))[3]? = some (.int .i64 ((aheadB v + n : Nat) : Int)) := by rw [tv]; rfl
  obtain ⟨ed, he⟩ : ∃ e, e = aheadB v + n := ⟨_, rfl⟩
  rw [← he] at tl g3 ⊢
  have G2 := Lib.hid g2
  have G3 := Lib.hid g3
  generalize vw (frmB v sb db p sp dp 2 zs false bare 0) = VW at *
  generalize kcells p (cellsA v sb) (cellsA v db) sp dp = kc at *
  have YK : Hid (kc.size = Array.size (#[Value.int .u8 0, .bool false, .int .u8 0, .int .u8 0, .int .u8 0, .int .u8 0, .int .u8 0, .int .u8 0, .int .u8 0, .int .u8 0, .int .u8 0, .int .u8 0, .int .u8 0, .int .u8 0, .int .u8 0, .int .u8 0, .int .u8 0, .int .u8 0, .bool false, .int .u8 0, .int .u8 0, .int .u8 0, .int .u8 0, .int .u8 0, .int .u8 0, .int .u8 0, .int .u8 0, .int .u8 0, .int .u8 0, .int .u8 0, .int .u8 0, .int .u8 0, .int .u8 0, .int .u8 0, .int .u8 0, .int .u16 0, .int .u16 0] : Array Value)) := yk
  have IK := Lib.hid (i43.trans (congrArg some yk.symm))
  have AK := Lib.hid ak
  have YV : Hid (VW.size = Array.size (#[Value.bool false, .int .i64 0, .int .i64 0, .int .i64 0, .int .u8 0, .bool false, .int .u8 0, .int .u8 0, .int .u8 0, .int .u8 0, .int .u8 0, .int .u8 0, .int .u8 0, .int .u8 0, .int .u8 0, .int .u8 0, .int .u8 0, .int .u8 0, .int .u8 0, .int .u8 0, .int .u8 0, .int .u8 0, .bool false, .int .u8 0, .int .u8 0, .int .u8 0, .int .u8 0, .int .u8 0, .int .u8 0, .int .u8 0, .int .u8 0, .int .u8 0, .int .u8 0, .int .u8 0, .int .u8 0, .int .u8 0, .int .u8 0, .int .u8 0, .int .u8 0, .int .u16 0, .int .u16 0, .int .u8 0] : Array Value)) := yv
  have IV := Lib.hid (i72.trans (congrArg some yv.symm))
  have AV := Lib.hid av
  have TL := Lib.hid tl
  generalize frmB v sb db p sp dp 2 zs false bare 0 = FR at *
  have hen : ed - aheadB v = n := by omega
  have HEN := Lib.hid hen
  have hale : aheadB v ≤ ed := by omega
  have halt : aheadB v < ed := by omega
  generalize aheadB v = at0 at *
  have HR := Lib.hid hr
  have K := Lib.hid (Below.refl w.heap.size w)
  clear T hfl hsl hz20 zS zD tl tv tr yv av g2 g3 yk ak hr hL hna hb hl1 hl2 hb1 hb2 hv1 hv2 hsp hdp hn hen hp he
  go_enter Try.func19, Try.ntmps19
  have hal := (Below.refl w.heap.size w).alloc (Nat.le_refl _) (.cells kc 43)
  replace K := Lib.hid (K.out.trans (hal.mono K.out.size))
  have N := Lib.hid (Blk.new w 43 kc)
  clear hal
  have L1 : (loadVar 43 ⟨w.heap.size, 0, none⟩).run Try.prog (w.alloc (.cells kc 43)) = .ok (.agg kc) (w.alloc (.cells kc 43)) := run_blk_load (P := Try.prog) 43 (w.heap.size) _ N.out Try.underlying43 rfl IK.out
  replace L1 := Lib.hid L1
  go_wp2_with (((with_reducible refine wpList_load_want (op := ⟨some 10, .load 43 (.tmp 3), _, _, _, _⟩) ?wg1 43 (.tmp 3) ?wo1 ⟨w.heap.size, 0, none⟩ ?wx1 (.agg kc) L1.out ?_); (case wg1 => rfl); (case wo1 => rfl); (case wx1 => rfl)))
  clear L1
  have hzV1 : Hid ((w.alloc (.cells kc 43)).heap.size = w.heap.size + 1) := by show _ = _; simp only [World.size_alloc]
  generalize (w.alloc (.cells kc 43)) = V1 at *
  have qK := K.out.size
  refine (CB.out _ (HR.out.below K.out)).mono ?_
  rintro e V2 ⟨x, nx, rfl, ox, hy⟩
  replace K := Lib.hid (K.out.trans (hy.mono K.out.size))
  replace N := Lib.hid (N.out.below hy N.out.lt)
  have nl : ed = nx := (by have q1 := ox.1; rw [nus_length, Nat.mul_one] at q1; have q2 := TL.out; omega)
  subst nl
  have B := Lib.hid (ox)
  clear ox
  clear hy
  obtain ⟨g, c, rfl, hc, hcm, hg, hgu⟩ := own_at B.out (by omega)
  go_wp2_with fail
  refine (CR.out _ _ (Rd.own B.out)).mono ?_
  rintro e V3 ⟨rfl, hy⟩
  replace K := Lib.hid (K.out.trans (hy.mono K.out.size))
  replace N := Lib.hid (N.out.below hy N.out.lt)
  replace B := Lib.hid (row_under B.out hy)
  clear hy
  go_wp2_with (((with_reducible refine wpList_blk_store (op := ⟨none, .store 72 (.tmp 8) (.tmp 17), _, _, _, _⟩) ?sg2 72 (.tmp 8) (.tmp 17) ?so2 (V3.heap.size) VW ?sx2 ?sy2 (Blk.new V3 72 #[Value.bool false, .int .i64 0, .int .i64 0, .int .i64 0, .int .u8 0, .bool false, .int .u8 0, .int .u8 0, .int .u8 0, .int .u8 0, .int .u8 0, .int .u8 0, .int .u8 0, .int .u8 0, .int .u8 0, .int .u8 0, .int .u8 0, .int .u8 0, .int .u8 0, .int .u8 0, .int .u8 0, .int .u8 0, .bool false, .int .u8 0, .int .u8 0, .int .u8 0, .int .u8 0, .int .u8 0, .int .u8 0, .int .u8 0, .int .u8 0, .int .u8 0, .int .u8 0, .int .u8 0, .int .u8 0, .int .u8 0, .int .u8 0, .int .u8 0, .int .u8 0, .int .u16 0, .int .u16 0, .int .u8 0]) YV.out IV.out AV.out ?_); (case sg2 => rfl); (case so2 => rfl); (case sx2 => rfl); (case sy2 => rfl)))
  have qNNV : w.heap.size < V3.heap.size := N.out.lt
  intro V4 hA hF hB
  have hy := ((Below.refl V3.heap.size V3).alloc (Nat.le_refl _) (.cells #[Value.bool false, .int .i64 0, .int .i64 0, .int .i64 0, .int .u8 0, .bool false, .int .u8 0, .int .u8 0, .int .u8 0, .int .u8 0, .int .u8 0, .int .u8 0, .int .u8 0, .int .u8 0, .int .u8 0, .int .u8 0, .int .u8 0, .int .u8 0, .int .u8 0, .int .u8 0, .int .u8 0, .int .u8 0, .bool false, .int .u8 0, .int .u8 0, .int .u8 0, .int .u8 0, .int .u8 0, .int .u8 0, .int .u8 0, .int .u8 0, .int .u8 0, .int .u8 0, .int .u8 0, .int .u8 0, .int .u8 0, .int .u8 0, .int .u8 0, .int .u8 0, .int .u16 0, .int .u16 0, .int .u8 0] 72)).trans (hB _ (Nat.le_refl _))
  replace K := Lib.hid (K.out.trans (hy.mono K.out.size))
  replace N := Lib.hid (N.out.below hy N.out.lt)
  replace B := Lib.hid (row_under B.out hy)
  have NV := Lib.hid hA
  clear hA hF hB hy
  unfold maxLen at hcm
  have hle1 : (at0 : Int) ≤ (ed : Int) := by omega
  have hle2 : (ed : Int) ≤ (c : Int) := by omega
  have hne : (c = at0) = False := eq_false (by omega)
  have hen := HEN.out
  have L3 := (NV.out.cell 2).trans G2.out
  have L4 := (NV.out.cell 3).trans G3.out
  go_wp2_with fail
  clear L3 L4
  go_ret
  exact ⟨g, c, rfl, own_low qK B.out, K.out⟩
end Go.Proofs.Ytbhiknojjmdbiaa

/- bazaarlaw7.of as a row that is read. -/
namespace Go.Proofs.Ytbhiknojjmdbiaa
open Go.RowKit

theorem own_sub {w : World} {base g N at0 n c : Nat} {F : List Nat} (h : w.ownsRow base 5 1 (.slice (some ⟨g, 0, none⟩) N c) N (nus .u8 F)) (hN : N = at0 + n) :
    Rd w (.slice (some ⟨g, at0, none⟩) n (c - at0)) (nus .u8 ((F.drop at0).take n)) := by
  have := (Rd.own h).sub at0 n (by omega)
  rwa [Nat.zero_add] at this
theorem of_rd (p : Nat) (hp : p = 6 ∨ p = 17) (v : Bool) (sb db : List Nat) (sp dp : Nat) (a : Option Addr) (la ca : Nat) (zs : List Nat) (bare : Bool) (w : World) (hr : Rd w (.slice a la ca) (nus .u8 zs)) (hL : zs.length = la) (hna : a = none → ca = 0) (hb : ∀ c ∈ zs, c < 256) (hz : la ≤ 1500)
    (hl1 : sb.length = 16) (hl2 : db.length = 16) (hb1 : ∀ c ∈ sb, c < 256) (hb2 : ∀ c ∈ db, c < 256) (hv1 : vldA v sb = true) (hv2 : vldA v db = true) (hsp : sp < 65536) (hdp : dp < 65536) :
    Calls Try.prog 19 #[.agg (kcells p (cellsA v sb) (cellsA v db) sp dp), .slice a la ca, .bool bare] w fun e w' => ∃ b off c, e = .returned (.slice (some ⟨b, off, none⟩) (segB p v sb db sp dp 2 zs bare).length c) ∧
      Rd w' (.slice (some ⟨b, off, none⟩) (segB p v sb db sp dp 2 zs bare).length c) (nus .u8 (segB p v sb db sp dp 2 zs bare)) ∧ Below w.heap.size w w' := by
  have T := told v sb db p sp dp 2 zs bare hp hl1 hl2 hv1 hv2 (by omega) hsp hdp
  refine (of_any p hp v sb db sp dp a la ca zs bare w hr hL hna hb hz hl1 hl2 hb1 hb2 hv1 hv2 hsp hdp).mono ?_
  rintro e w' ⟨g, c, rfl, ho, hB⟩
  have h := own_sub ho rfl
  rw [T.sg, List.take_length] at h
  exact ⟨g, aheadB v, _, rfl, h, hB⟩
end Go.Proofs.Ytbhiknojjmdbiaa

/- bazaarlaw7.awake. -/
namespace Go.Proofs.Ytbhiknojjmdbiaa
open Go.RowKit

def s5 : List Nat := [10, 0, 0, 5, 0, 0, 0, 0, 0, 0, 0, 0, 0, 0, 0, 0]
def d5 : List Nat := [192, 168, 0, 1, 0, 0, 0, 0, 0, 0, 0, 0, 0, 0, 0, 0]
def e5 : List Nat := [172, 16, 0, 2, 0, 0, 0, 0, 0, 0, 0, 0, 0, 0, 0, 0]
def B7 : List Nat := segB 17 false s5 d5 1005 80 2 [97, 98, 99] false
def C7 : List Nat := prt 17 B7 8001 false d5 e5
theorem B7_lt : ∀ c ∈ B7, c < 256 := by decide +kernel
theorem C7_lt : ∀ c ∈ C7, c < 256 := by decide +kernel
theorem B7_len : B7.length = 11 := by decide +kernel
theorem C7_len : C7.length = 11 := by decide +kernel
theorem B7_fs : fs 17 B7 = 0 := by decide +kernel
theorem B7_f1 : fs 1 B7 = 6 := by decide +kernel
theorem B7_f6 : fs 6 B7 = 1 := by decide +kernel
theorem B7_u0 : u2 B7 0 = 1005 := by decide +kernel
theorem B7_u2 : u2 B7 2 = 80 := by decide +kernel
theorem B7_h : hs7 17 B7 = #[.int .u16 (1005 : Nat), .int .u16 (80 : Nat), .int .u8 (0 : Nat)] := by unfold hs7; rw [if_pos B7_fs, B7_u0, B7_u2]; rfl
theorem B7_h1 : hs7 1 B7 = #[.int .u16 0, .int .u16 0, .int .u8 0] := by unfold hs7; rw [if_neg (by rw [B7_f1]; decide)]
theorem B7_h6 : hs7 6 B7 = #[.int .u16 0, .int .u16 0, .int .u8 0] := by unfold hs7; rw [if_neg (by rw [B7_f6]; decide)]
theorem B7_g : gd 17 B7 false s5 false d5 = true := by decide +kernel
theorem B7_gn : gd 17 B7 false s5 false e5 = false := by decide +kernel
theorem C7_g : gd 17 C7 false s5 false e5 = true := by decide +kernel
theorem B7_p : pOut 17 B7 8001 false d5 false e5 = C7 := by unfold pOut; rw [if_pos ⟨B7_fs, rfl⟩]; rfl

set_option maxRecDepth 100000 in
set_option maxHeartbeats 4000000 in
theorem awake_any (w : World) : Calls Try.prog 9 #[] w fun e w' => e = .returned (.bool true) ∧ Below w.heap.size w w' := by
  obtain ⟨S, hS⟩ : ∃ S, S = cellsA false s5 := ⟨_, rfl⟩
  obtain ⟨D, hD⟩ : ∃ D, D = cellsA false d5 := ⟨_, rfl⟩
  obtain ⟨E, hE⟩ : ∃ E, E = cellsA false e5 := ⟨_, rfl⟩
  have zS : S.size = 17 := by rw [hS]; rfl
  have zD : D.size = 17 := by rw [hD]; rfl
  have zE : E.size = 17 := by rw [hE]; rfl
  obtain ⟨kc, hkc⟩ : ∃ kc, kc = kcells 17 S D 1005 80 := ⟨_, rfl⟩
  obtain ⟨dc, hdc⟩ : ∃ dc, dc = dcells E 8001 := ⟨_, rfl⟩
  obtain ⟨h1, hh1⟩ : ∃ h, h = hs7 17 B7 := ⟨_, rfl⟩
  obtain ⟨h2, hh2⟩ : ∃ h, h = hs7 1 B7 := ⟨_, rfl⟩
  obtain ⟨h3, hh3⟩ : ∃ h, h = hs7 6 B7 := ⟨_, rfl⟩
  have CK := Lib.hid (show ∀ W, Calls Try.prog 17 #[.int .i64 5, .bool false, .bool true] W fun e w' => e = .returned (.agg kc) ∧ Below W.heap.size W w' from fun W => by rw [hkc, hS, hD]; exact key_udp 5 false 5 1005 W (show (5 : Int) % 1073741824 = ((5 : Nat) : Int) by decide) (by omega) rfl)
  have CO := Lib.hid (show ∀ W z, Rd W (.slice (some z) 3 3) (nus .u8 [97, 98, 99]) → Calls Try.prog 19 #[.agg kc, .slice (some z) 3 3, .bool false] W fun e w' => ∃ b off c, e = .returned (.slice (some ⟨b, off, none⟩) 11 c) ∧ Rd w' (.slice (some ⟨b, off, none⟩) 11 c) (nus .u8 B7) ∧ Below W.heap.size W w' from fun W z h => by
    have := of_rd 17 (.inr rfl) false s5 d5 1005 80 (some z) 3 3 [97, 98, 99] false W h rfl (by intro e; cases e) (by decide) (by omega) rfl rfl (by decide) (by decide) rfl rfl (by omega) (by omega)
    rw [show (segB 17 false s5 d5 1005 80 2 [97, 98, 99] false) = B7 from rfl, B7_len] at this
    rw [hkc, hS, hD]; exact this)
  have CR := Lib.hid (show ∀ W z, Rd W z (nus .u8 B7) → Calls Try.prog 10 #[.int .u8 17, z] W fun e w' => e = .returned (.tuple #[.agg h1, .int .i64 0]) ∧ Below W.heap.size W w' from fun W z h => by have := read_any 17 z B7 W h B7_lt; rw [B7_fs] at this; rw [hh1]; exact this)
  have CT := Lib.hid (show ∀ W z, Rd W z (nus .u8 B7) → Calls Try.prog 10 #[.int .u8 1, z] W fun e w' => e = .returned (.tuple #[.agg h2, .int .i64 6]) ∧ Below W.heap.size W w' from fun W z h => by have := read_any 1 z B7 W h B7_lt; rw [B7_f1] at this; rw [hh2]; exact this)
  have CU := Lib.hid (show ∀ W z, Rd W z (nus .u8 B7) → Calls Try.prog 10 #[.int .u8 6, z] W fun e w' => e = .returned (.tuple #[.agg h3, .int .i64 1]) ∧ Below W.heap.size W w' from fun W z h => by have := read_any 6 z B7 W h B7_lt; rw [B7_f6] at this; rw [hh3]; exact this)
  have CP := Lib.hid (show ∀ W, Calls Try.prog 18 #[.int .i64 1, .bool false] W fun e w' => e = .returned (.agg dc) ∧ Below W.heap.size W w' from fun W => by rw [hdc, hE]; exact dip_at 1 false 8001 1 W (show (1 : Int) % 1000 = ((8001 : Nat) : Int) - 8000 by decide) (show (1 : Int) % 200 = ((1 : Nat) : Int) by decide) (by omega) (by omega) (by omega))
  have CD := Lib.hid (show ∀ W z, Rd W z (nus .u8 B7) → Calls Try.prog 13 #[.int .u8 17, z, .int .u16 8001, .agg D, .agg E] W fun e w' => ∃ x, e = .returned x ∧ Rd w' x (nus .u8 C7) ∧ Below W.heap.size W w' from fun W z h => by have := port_any 17 z B7 8001 false d5 false e5 W h B7_lt (by rw [B7_len]; omega) (by omega) rfl rfl (by decide) (by decide); rw [B7_p] at this; rw [hD, hE]; exact this)
  have CX := Lib.hid (show ∀ W z, Rd W z (nus .u8 B7) → Calls Try.prog 13 #[.int .u8 17, z, .int .u16 1, .agg D, .agg #[Value.bool true, .int .u8 0, .int .u8 0, .int .u8 0, .int .u8 0, .int .u8 0, .int .u8 0, .int .u8 0, .int .u8 0, .int .u8 0, .int .u8 0, .int .u8 0, .int .u8 0, .int .u8 0, .int .u8 0, .int .u8 0, .int .u8 0]] W fun e w' => e = .returned (.slice none 0 0) ∧ Below W.heap.size W w' from fun W z h => by have := port_no 17 z B7 1 false d5 true (List.replicate 16 0) W h B7_lt (.inr (by decide)); rw [hD]; exact this)
  have CG := Lib.hid (show ∀ W z, Rd W z (nus .u8 B7) → Calls Try.prog 15 #[.int .u8 17, z, .agg S, .agg D] W fun e w' => e = .returned (.bool true) ∧ Below W.heap.size W w' from fun W z h => by have := good_any 17 z B7 false s5 false d5 W h B7_lt (by rw [B7_len]; omega) (by omega) rfl rfl (by decide) (by decide); rw [B7_g] at this; rw [hS, hD]; exact this)
  have CH := Lib.hid (show ∀ W z, Rd W z (nus .u8 B7) → Calls Try.prog 15 #[.int .u8 17, z, .agg S, .agg E] W fun e w' => e = .returned (.bool false) ∧ Below W.heap.size W w' from fun W z h => by have := good_any 17 z B7 false s5 false e5 W h B7_lt (by rw [B7_len]; omega) (by omega) rfl rfl (by decide) (by decide); rw [B7_gn] at this; rw [hS, hE]; exact this)
  have CI := Lib.hid (show ∀ W z, Rd W z (nus .u8 C7) → Calls Try.prog 15 #[.int .u8 17, z, .agg S, .agg E] W fun e w' => e = .returned (.bool true) ∧ Below W.heap.size W w' from fun W z h => by have := good_any 17 z C7 false s5 false e5 W h C7_lt (by rw [C7_len]; omega) (by omega) rfl rfl (by decide) (by decide); rw [C7_g] at this; rw [hS, hE]; exact this)
  have kp1 := Lib.hid (show (kc.toList.drop 1).take S.toList.length = S.toList by rw [hkc]; exact kcells_src _ _ _ _ _)
  have kp2 := Lib.hid (show (kc.toList.drop 18).take D.toList.length = D.toList by rw [hkc]; exact kcells_dst _ _ _ _ _ zS)
  have dp0 := Lib.hid (show (dc.toList.drop 0).take E.toList.length = E.toList by rw [hdc]; simp [dcells])
  have kg3 := Lib.hid (show kc[35]? = some (.int .u16 1005) by rw [hkc, hS, hD]; rfl)
  have dg1 := Lib.hid (show dc[17]? = some (.int .u16 8001) by rw [hdc, hE]; rfl)
  have hg0 := Lib.hid (show h1[0]? = some (.int .u16 1005) by rw [hh1, B7_h]; rfl)
  have hg1 := Lib.hid (show h1[1]? = some (.int .u16 80) by rw [hh1, B7_h]; rfl)
  have hg2 := Lib.hid (show h1[2]? = some (.int .u8 0) by rw [hh1, B7_h]; rfl)
  have IS := Lib.hid (i24.trans (congrArg some (show (17 : Nat) = S.toList.length by simp [zS])))
  have ID := Lib.hid (i24.trans (congrArg some (show (17 : Nat) = D.toList.length by simp [zD])))
  have IE := Lib.hid (i24.trans (congrArg some (show (17 : Nat) = E.toList.length by simp [zE])))
  have zk : kc.size = 37 := by rw [hkc]; exact kcells_size _ _ _ _ _ zS zD
  have zd : dc.size = 18 := by rw [hdc]; exact dcells_size _ _ zE
  have AS : S.all (·.oneCell') = true := by rw [hS]; exact cellsA_all _ _
  have AD : D.all (·.oneCell') = true := by rw [hD]; exact cellsA_all _ _
  have AE : E.all (·.oneCell') = true := by rw [hE]; exact cellsA_all _ _
  have Ak := Lib.hid (show kc.all (·.oneCell') = true by rw [hkc]; exact kcells_all _ _ _ _ _ AS AD)
  have Ad := Lib.hid (show dc.all (·.oneCell') = true by rw [hdc]; exact dcells_all _ _ AE)
  have Zk := Lib.hid (i43.trans (congrArg some zk.symm))
  have Yk : Hid (kc.size = Array.size (#[Value.int .u8 0, .bool false, .int .u8 0, .int .u8 0, .int .u8 0, .int .u8 0, .int .u8 0, .int .u8 0, .int .u8 0, .int .u8 0, .int .u8 0, .int .u8 0, .int .u8 0, .int .u8 0, .int .u8 0, .int .u8 0, .int .u8 0, .int .u8 0, .bool false, .int .u8 0, .int .u8 0, .int .u8 0, .int .u8 0, .int .u8 0, .int .u8 0, .int .u8 0, .int .u8 0, .int .u8 0, .int .u8 0, .int .u8 0, .int .u8 0, .int .u8 0, .int .u8 0, .int .u8 0, .int .u8 0, .int .u16 0, .int .u16 0] : Array Value)) := zk
  have Zd := Lib.hid (i45.trans (congrArg some zd.symm))
  have Yd : Hid (dc.size = Array.size (#[Value.bool false, .int .u8 0, .int .u8 0, .int .u8 0, .int .u8 0, .int .u8 0, .int .u8 0, .int .u8 0, .int .u8 0, .int .u8 0, .int .u8 0, .int .u8 0, .int .u8 0, .int .u8 0, .int .u8 0, .int .u8 0, .int .u8 0, .int .u16 0] : Array Value)) := zd
  have A1 := Lib.hid (show h1.all (·.oneCell') = true by rw [hh1]; exact hs7_all _ _)
  have A2 := Lib.hid (show h2.all (·.oneCell') = true by rw [hh2]; exact hs7_all _ _)
  have A3 := Lib.hid (show h3.all (·.oneCell') = true by rw [hh3]; exact hs7_all _ _)
  have Y1 : Hid (h1.size = Array.size (#[Value.int .u16 0, .int .u16 0, .int .u8 0] : Array Value)) := by show _ = _; rw [hh1]; exact hs7_size _ _
  have Y2 : Hid (h2.size = Array.size (#[Value.int .u16 0, .int .u16 0, .int .u8 0] : Array Value)) := by show _ = _; rw [hh2]; exact hs7_size _ _
  have Y3 : Hid (h3.size = Array.size (#[Value.int .u16 0, .int .u16 0, .int .u8 0] : Array Value)) := by show _ = _; rw [hh3]; exact hs7_size _ _
  have Z1 := Lib.hid (i30.trans (congrArg some Y1.out.symm))
  have Z2 := Lib.hid (i30.trans (congrArg some Y2.out.symm))
  have Z3 := Lib.hid (i30.trans (congrArg some Y3.out.symm))
  have CL := Lib.hid C7_len
  have kcv := fun (w : World) (C : Array Value) (n c : Nat) => Lib.run_convert_bytes_const (P := Try.prog) w 22 5 C n c Try.underlying22 Try.underlying5
  have K := Lib.hid (Below.refl w.heap.size w)
  clear hS hD hE hkc hdc hh1 hh2 hh3 zS zD zE zk zd AS AD AE
  go_enter Try.func9, Try.ntmps9
  go_wp2_with fail
  refine (CK.out _).mono ?_
  rintro e V1 ⟨rfl, hy⟩
  replace K := Lib.hid (K.out.trans (hy.mono K.out.size))
  clear hy
  go_wp2_with (((with_reducible refine wpList_blk_store (op := ⟨none, .store 43 (.tmp 1) (.tmp 11), _, _, _, _⟩) ?sg1 43 (.tmp 1) (.tmp 11) ?so1 (V1.heap.size) kc ?sx1 ?sy1 (Blk.new V1 43 #[Value.int .u8 0, .bool false, .int .u8 0, .int .u8 0, .int .u8 0, .int .u8 0, .int .u8 0, .int .u8 0, .int .u8 0, .int .u8 0, .int .u8 0, .int .u8 0, .int .u8 0, .int .u8 0, .int .u8 0, .int .u8 0, .int .u8 0, .int .u8 0, .bool false, .int .u8 0, .int .u8 0, .int .u8 0, .int .u8 0, .int .u8 0, .int .u8 0, .int .u8 0, .int .u8 0, .int .u8 0, .int .u8 0, .int .u8 0, .int .u8 0, .int .u8 0, .int .u8 0, .int .u8 0, .int .u8 0, .int .u16 0, .int .u16 0]) Yk.out Zk.out Ak.out ?_); (case sg1 => rfl); (case so1 => rfl); (case sx1 => rfl); (case sy1 => rfl)))
  intro V2 hA hF hB
  have hy := ((Below.refl V1.heap.size V1).alloc (Nat.le_refl _) (.cells #[Value.int .u8 0, .bool false, .int .u8 0, .int .u8 0, .int .u8 0, .int .u8 0, .int .u8 0, .int .u8 0, .int .u8 0, .int .u8 0, .int .u8 0, .int .u8 0, .int .u8 0, .int .u8 0, .int .u8 0, .int .u8 0, .int .u8 0, .int .u8 0, .bool false, .int .u8 0, .int .u8 0, .int .u8 0, .int .u8 0, .int .u8 0, .int .u8 0, .int .u8 0, .int .u8 0, .int .u8 0, .int .u8 0, .int .u8 0, .int .u8 0, .int .u8 0, .int .u8 0, .int .u8 0, .int .u8 0, .int .u16 0, .int .u16 0] 43)).trans (hB _ (Nat.le_refl _))
  replace K := Lib.hid (K.out.trans (hy.mono K.out.size))
  have NK := Lib.hid hA
  clear hA hF hB hy
  have hal := (Below.refl V2.heap.size V2).alloc (Nat.le_refl _) (.cells #[Value.int .u8 97, .int .u8 98, .int .u8 99] 5 (3, 3 + 1))
  have RL := Lib.hid (show Rd (V2.alloc (.cells #[Value.int .u8 97, .int .u8 98, .int .u8 99] 5 (3, 3 + 1))) (.slice (some ⟨V2.heap.size, 0, none⟩) 3 3) (nus .u8 [97, 98, 99]) from rd_lit V2 .u8 5 [97, 98, 99] 3 (3, 4) rfl (by simp [maxLen]))
  have L2 : (loadVar 43 ⟨V1.heap.size, 0, none⟩).run Try.prog V2 = .ok (.agg kc) V2 := run_blk_load (P := Try.prog) 43 (V1.heap.size) _ NK.out Try.underlying43 rfl Zk.out
  replace L2 := Lib.hid L2
  go_wp2_with (((with_reducible refine wpList_load_want (op := ⟨some 12, .load 43 (.tmp 1), _, _, _, _⟩) ?wg2 43 (.tmp 1) ?wo2 ⟨V1.heap.size, 0, none⟩ ?wx2 (.agg kc) L2.out ?_); (case wg2 => rfl); (case wo2 => rfl); (case wx2 => rfl)))
  clear L2
  replace K := Lib.hid (K.out.trans (hal.mono K.out.size))
  replace NK := Lib.hid (NK.out.below hal NK.out.lt)
  clear hal kcv
  refine (CO.out _ _ RL.out).mono ?_
  rintro e V3 ⟨gb, ob, cb, rfl, rb, hy⟩
  replace K := Lib.hid (K.out.trans (hy.mono K.out.size))
  replace NK := Lib.hid (NK.out.below hy NK.out.lt)
  have R := Lib.hid rb
  clear rb hy RL
  go_wp2_with fail
  refine (CR.out _ _ R.out).mono ?_
  rintro e V4 ⟨rfl, hy⟩
  replace K := Lib.hid (K.out.trans (hy.mono K.out.size))
  replace NK := Lib.hid (NK.out.below hy NK.out.lt)
  replace R := Lib.hid (R.out.below hy)
  clear hy
  go_wp2_with (((with_reducible refine wpList_blk_store (op := ⟨none, .store 30 (.tmp 3) (.tmp 19), _, _, _, _⟩) ?sg3 30 (.tmp 3) (.tmp 19) ?so3 (V4.heap.size) h1 ?sx3 ?sy3 (Blk.new V4 30 #[Value.int .u16 0, .int .u16 0, .int .u8 0]) Y1.out Z1.out A1.out ?_); (case sg3 => rfl); (case so3 => rfl); (case sx3 => rfl); (case sy3 => rfl)))
  have qNKN3 : V1.heap.size < V4.heap.size := NK.out.lt
  intro V5 hA hF hB
  have hy := ((Below.refl V4.heap.size V4).alloc (Nat.le_refl _) (.cells #[Value.int .u16 0, .int .u16 0, .int .u8 0] 30)).trans (hB _ (Nat.le_refl _))
  replace K := Lib.hid (K.out.trans (hy.mono K.out.size))
  replace NK := Lib.hid (NK.out.below hy NK.out.lt)
  replace R := Lib.hid (R.out.below hy)
  have N3 := Lib.hid hA
  clear hA hF hB hy
  go_wp2_with fail
  refine (CP.out _).mono ?_
  rintro e V6 ⟨rfl, hy⟩
  replace K := Lib.hid (K.out.trans (hy.mono K.out.size))
  replace NK := Lib.hid (NK.out.below hy NK.out.lt)
  replace R := Lib.hid (R.out.below hy)
  replace N3 := Lib.hid (N3.out.below hy N3.out.lt)
  clear hy
  go_wp2_with (((with_reducible refine wpList_blk_store (op := ⟨none, .store 46 (.tmp 5) (.tmp 21), _, _, _, _⟩) ?sg4 46 (.tmp 5) (.tmp 21) ?so4 (V6.heap.size) dc ?sx4 ?sy4 (Blk.new V6 46 #[Value.bool false, .int .u8 0, .int .u8 0, .int .u8 0, .int .u8 0, .int .u8 0, .int .u8 0, .int .u8 0, .int .u8 0, .int .u8 0, .int .u8 0, .int .u8 0, .int .u8 0, .int .u8 0, .int .u8 0, .int .u8 0, .int .u8 0, .int .u16 0]) Yd.out Zd.out Ad.out ?_); (case sg4 => rfl); (case so4 => rfl); (case sx4 => rfl); (case sy4 => rfl)))
  have qNKN5 : V1.heap.size < V6.heap.size := NK.out.lt
  have qN3N5 : V4.heap.size < V6.heap.size := N3.out.lt
  intro V7 hA hF hB
  have hy := ((Below.refl V6.heap.size V6).alloc (Nat.le_refl _) (.cells #[Value.bool false, .int .u8 0, .int .u8 0, .int .u8 0, .int .u8 0, .int .u8 0, .int .u8 0, .int .u8 0, .int .u8 0, .int .u8 0, .int .u8 0, .int .u8 0, .int .u8 0, .int .u8 0, .int .u8 0, .int .u8 0, .int .u8 0, .int .u16 0] 46)).trans (hB _ (Nat.le_refl _))
  replace K := Lib.hid (K.out.trans (hy.mono K.out.size))
  replace NK := Lib.hid (NK.out.below hy NK.out.lt)
  replace R := Lib.hid (R.out.below hy)
  replace N3 := Lib.hid (N3.out.below hy N3.out.lt)
  have N5 := Lib.hid hA
  clear hA hF hB hy
  have L5 := (N5.out.cell 17).trans dg1.out
  have L6 : (loadVar 26 ⟨V1.heap.size, 18, none⟩).run Try.prog V7 = .ok (.agg D) V7 := by have h := run_part_load (P := Try.prog) 26 18 D.toList _ NK.out kp2.out Try.underlying26 rfl ID.out; rwa [Array.toArray_toList] at h
  replace L6 := Lib.hid L6
  have L7 : (loadVar 26 ⟨V6.heap.size, 0, none⟩).run Try.prog V7 = .ok (.agg E) V7 := by have h := run_part_load (P := Try.prog) 26 0 E.toList _ N5.out dp0.out Try.underlying26 rfl IE.out; rwa [Array.toArray_toList] at h
  replace L7 := Lib.hid L7
  go_wp2_with (first | ((with_reducible refine wpList_load_want (op := ⟨some 26, .load 26 (.tmp 25), _, _, _, _⟩) ?wg6 26 (.tmp 25) ?wo6 ⟨V1.heap.size, 18, none⟩ ?wx6 (.agg D) L6.out ?_); (case wg6 => rfl); (case wo6 => rfl); (case wx6 => rfl)) | ((with_reducible refine wpList_load_want (op := ⟨some 28, .load 26 (.tmp 27), _, _, _, _⟩) ?wg7 26 (.tmp 27) ?wo7 ⟨V6.heap.size, 0, none⟩ ?wx7 (.agg E) L7.out ?_); (case wg7 => rfl); (case wo7 => rfl); (case wx7 => rfl)))
  clear L5 L6 L7
  refine (CD.out _ _ R.out).mono ?_
  rintro e V8 ⟨x, rfl, rx, hy⟩
  replace K := Lib.hid (K.out.trans (hy.mono K.out.size))
  replace NK := Lib.hid (NK.out.below hy NK.out.lt)
  replace R := Lib.hid (R.out.below hy)
  replace N3 := Lib.hid (N3.out.below hy N3.out.lt)
  replace N5 := Lib.hid (N5.out.below hy N5.out.lt)
  have P := Lib.hid (rx)
  clear rx
  clear hy
  go_wp2_with fail
  refine (CT.out _ _ R.out).mono ?_
  rintro e V9 ⟨rfl, hy⟩
  replace K := Lib.hid (K.out.trans (hy.mono K.out.size))
  replace NK := Lib.hid (NK.out.below hy NK.out.lt)
  replace R := Lib.hid (R.out.below hy)
  replace N3 := Lib.hid (N3.out.below hy N3.out.lt)
  replace N5 := Lib.hid (N5.out.below hy N5.out.lt)
  replace P := Lib.hid (P.out.below hy)
  clear hy
  go_wp2_with (((with_reducible refine wpList_blk_store (op := ⟨none, .store 30 (.tmp 7) (.tmp 33), _, _, _, _⟩) ?sg8 30 (.tmp 7) (.tmp 33) ?so8 (V9.heap.size) h2 ?sx8 ?sy8 (Blk.new V9 30 #[Value.int .u16 0, .int .u16 0, .int .u8 0]) Y2.out Z2.out A2.out ?_); (case sg8 => rfl); (case so8 => rfl); (case sx8 => rfl); (case sy8 => rfl)))
  have qNKN7 : V1.heap.size < V9.heap.size := NK.out.lt
  have qN3N7 : V4.heap.size < V9.heap.size := N3.out.lt
  have qN5N7 : V6.heap.size < V9.heap.size := N5.out.lt
  intro V10 hA hF hB
  have hy := ((Below.refl V9.heap.size V9).alloc (Nat.le_refl _) (.cells #[Value.int .u16 0, .int .u16 0, .int .u8 0] 30)).trans (hB _ (Nat.le_refl _))
  replace K := Lib.hid (K.out.trans (hy.mono K.out.size))
  replace NK := Lib.hid (NK.out.below hy NK.out.lt)
  replace R := Lib.hid (R.out.below hy)
  replace N3 := Lib.hid (N3.out.below hy N3.out.lt)
  replace N5 := Lib.hid (N5.out.below hy N5.out.lt)
  replace P := Lib.hid (P.out.below hy)
  have N7 := Lib.hid hA
  clear hA hF hB hy
  go_wp2_with fail
  refine (CU.out _ _ R.out).mono ?_
  rintro e V11 ⟨rfl, hy⟩
  replace K := Lib.hid (K.out.trans (hy.mono K.out.size))
  replace NK := Lib.hid (NK.out.below hy NK.out.lt)
  replace R := Lib.hid (R.out.below hy)
  replace N3 := Lib.hid (N3.out.below hy N3.out.lt)
  replace N5 := Lib.hid (N5.out.below hy N5.out.lt)
  replace P := Lib.hid (P.out.below hy)
  replace N7 := Lib.hid (N7.out.below hy N7.out.lt)
  clear hy
  go_wp2_with (((with_reducible refine wpList_blk_store (op := ⟨none, .store 30 (.tmp 9) (.tmp 38), _, _, _, _⟩) ?sg9 30 (.tmp 9) (.tmp 38) ?so9 (V11.heap.size) h3 ?sx9 ?sy9 (Blk.new V11 30 #[Value.int .u16 0, .int .u16 0, .int .u8 0]) Y3.out Z3.out A3.out ?_); (case sg9 => rfl); (case so9 => rfl); (case sx9 => rfl); (case sy9 => rfl)))
  have qNKN9 : V1.heap.size < V11.heap.size := NK.out.lt
  have qN3N9 : V4.heap.size < V11.heap.size := N3.out.lt
  have qN5N9 : V6.heap.size < V11.heap.size := N5.out.lt
  have qN7N9 : V9.heap.size < V11.heap.size := N7.out.lt
  intro V12 hA hF hB
  have hy := ((Below.refl V11.heap.size V11).alloc (Nat.le_refl _) (.cells #[Value.int .u16 0, .int .u16 0, .int .u8 0] 30)).trans (hB _ (Nat.le_refl _))
  replace K := Lib.hid (K.out.trans (hy.mono K.out.size))
  replace NK := Lib.hid (NK.out.below hy NK.out.lt)
  replace R := Lib.hid (R.out.below hy)
  replace N3 := Lib.hid (N3.out.below hy N3.out.lt)
  replace N5 := Lib.hid (N5.out.below hy N5.out.lt)
  replace P := Lib.hid (P.out.below hy)
  replace N7 := Lib.hid (N7.out.below hy N7.out.lt)
  have N9 := Lib.hid hA
  clear hA hF hB hy
  have L10 := (N3.out.cell 0).trans hg0.out
  have L11 := (NK.out.cell 35).trans kg3.out
  have L12 := (N3.out.cell 1).trans hg1.out
  have L13 := (N3.out.cell 2).trans hg2.out
  have L14 : (loadVar 26 ⟨V1.heap.size, 1, none⟩).run Try.prog V12 = .ok (.agg S) V12 := by have h := run_part_load (P := Try.prog) 26 1 S.toList _ NK.out kp1.out Try.underlying26 rfl IS.out; rwa [Array.toArray_toList] at h
  replace L14 := Lib.hid L14
  have L15 : (loadVar 26 ⟨V1.heap.size, 18, none⟩).run Try.prog V12 = .ok (.agg D) V12 := by have h := run_part_load (P := Try.prog) 26 18 D.toList _ NK.out kp2.out Try.underlying26 rfl ID.out; rwa [Array.toArray_toList] at h
  replace L15 := Lib.hid L15
  go_wp2_with (first | ((with_reducible refine wpList_load_want (op := ⟨some 62, .load 26 (.tmp 61), _, _, _, _⟩) ?wg14 26 (.tmp 61) ?wo14 ⟨V1.heap.size, 1, none⟩ ?wx14 (.agg S) L14.out ?_); (case wg14 => rfl); (case wo14 => rfl); (case wx14 => rfl)) | ((with_reducible refine wpList_load_want (op := ⟨some 64, .load 26 (.tmp 63), _, _, _, _⟩) ?wg15 26 (.tmp 63) ?wo15 ⟨V1.heap.size, 18, none⟩ ?wx15 (.agg D) L15.out ?_); (case wg15 => rfl); (case wo15 => rfl); (case wx15 => rfl)))
  clear L10 L11 L12 L13 L14 L15
  refine (CG.out _ _ R.out).mono ?_
  rintro e V13 ⟨rfl, hy⟩
  replace K := Lib.hid (K.out.trans (hy.mono K.out.size))
  replace NK := Lib.hid (NK.out.below hy NK.out.lt)
  replace R := Lib.hid (R.out.below hy)
  replace N3 := Lib.hid (N3.out.below hy N3.out.lt)
  replace N5 := Lib.hid (N5.out.below hy N5.out.lt)
  replace P := Lib.hid (P.out.below hy)
  replace N7 := Lib.hid (N7.out.below hy N7.out.lt)
  replace N9 := Lib.hid (N9.out.below hy N9.out.lt)
  clear hy
  have L16 : (loadVar 26 ⟨V1.heap.size, 1, none⟩).run Try.prog V13 = .ok (.agg S) V13 := by have h := run_part_load (P := Try.prog) 26 1 S.toList _ NK.out kp1.out Try.underlying26 rfl IS.out; rwa [Array.toArray_toList] at h
  replace L16 := Lib.hid L16
  have L17 : (loadVar 26 ⟨V6.heap.size, 0, none⟩).run Try.prog V13 = .ok (.agg E) V13 := by have h := run_part_load (P := Try.prog) 26 0 E.toList _ N5.out dp0.out Try.underlying26 rfl IE.out; rwa [Array.toArray_toList] at h
  replace L17 := Lib.hid L17
  go_wp2_with (first | ((with_reducible refine wpList_load_want (op := ⟨some 70, .load 26 (.tmp 69), _, _, _, _⟩) ?wg16 26 (.tmp 69) ?wo16 ⟨V1.heap.size, 1, none⟩ ?wx16 (.agg S) L16.out ?_); (case wg16 => rfl); (case wo16 => rfl); (case wx16 => rfl)) | ((with_reducible refine wpList_load_want (op := ⟨some 72, .load 26 (.tmp 71), _, _, _, _⟩) ?wg17 26 (.tmp 71) ?wo17 ⟨V6.heap.size, 0, none⟩ ?wx17 (.agg E) L17.out ?_); (case wg17 => rfl); (case wo17 => rfl); (case wx17 => rfl)))
  clear L16 L17
  refine (CH.out _ _ R.out).mono ?_
  rintro e V14 ⟨rfl, hy⟩
  replace K := Lib.hid (K.out.trans (hy.mono K.out.size))
  replace NK := Lib.hid (NK.out.below hy NK.out.lt)
  replace R := Lib.hid (R.out.below hy)
  replace N3 := Lib.hid (N3.out.below hy N3.out.lt)
  replace N5 := Lib.hid (N5.out.below hy N5.out.lt)
  replace P := Lib.hid (P.out.below hy)
  replace N7 := Lib.hid (N7.out.below hy N7.out.lt)
  replace N9 := Lib.hid (N9.out.below hy N9.out.lt)
  clear hy
  have L18 : (loadVar 26 ⟨V1.heap.size, 1, none⟩).run Try.prog V14 = .ok (.agg S) V14 := by have h := run_part_load (P := Try.prog) 26 1 S.toList _ NK.out kp1.out Try.underlying26 rfl IS.out; rwa [Array.toArray_toList] at h
  replace L18 := Lib.hid L18
  have L19 : (loadVar 26 ⟨V6.heap.size, 0, none⟩).run Try.prog V14 = .ok (.agg E) V14 := by have h := run_part_load (P := Try.prog) 26 0 E.toList _ N5.out dp0.out Try.underlying26 rfl IE.out; rwa [Array.toArray_toList] at h
  replace L19 := Lib.hid L19
  go_wp2_with (first | ((with_reducible refine wpList_load_want (op := ⟨some 79, .load 26 (.tmp 78), _, _, _, _⟩) ?wg18 26 (.tmp 78) ?wo18 ⟨V1.heap.size, 1, none⟩ ?wx18 (.agg S) L18.out ?_); (case wg18 => rfl); (case wo18 => rfl); (case wx18 => rfl)) | ((with_reducible refine wpList_load_want (op := ⟨some 81, .load 26 (.tmp 80), _, _, _, _⟩) ?wg19 26 (.tmp 80) ?wo19 ⟨V6.heap.size, 0, none⟩ ?wx19 (.agg E) L19.out ?_); (case wg19 => rfl); (case wo19 => rfl); (case wx19 => rfl)))
  clear L18 L19
  refine (CI.out _ _ P.out).mono ?_
  rintro e V15 ⟨rfl, hy⟩
  replace K := Lib.hid (K.out.trans (hy.mono K.out.size))
  replace NK := Lib.hid (NK.out.below hy NK.out.lt)
  replace R := Lib.hid (R.out.below hy)
  replace N3 := Lib.hid (N3.out.below hy N3.out.lt)
  replace N5 := Lib.hid (N5.out.below hy N5.out.lt)
  replace P := Lib.hid (P.out.below hy)
  replace N7 := Lib.hid (N7.out.below hy N7.out.lt)
  replace N9 := Lib.hid (N9.out.below hy N9.out.lt)
  clear hy
  have L20 : (loadVar 26 ⟨V1.heap.size, 18, none⟩).run Try.prog V15 = .ok (.agg D) V15 := by have h := run_part_load (P := Try.prog) 26 18 D.toList _ NK.out kp2.out Try.underlying26 rfl ID.out; rwa [Array.toArray_toList] at h
  replace L20 := Lib.hid L20
  go_wp2_with (((with_reducible refine wpList_load_want (op := ⟨some 95, .load 26 (.tmp 94), _, _, _, _⟩) ?wg20 26 (.tmp 94) ?wo20 ⟨V1.heap.size, 18, none⟩ ?wx20 (.agg D) L20.out ?_); (case wg20 => rfl); (case wo20 => rfl); (case wx20 => rfl)))
  clear L20
  refine (CX.out _ _ R.out).mono ?_
  rintro e V16 ⟨rfl, hy⟩
  replace K := Lib.hid (K.out.trans (hy.mono K.out.size))
  replace NK := Lib.hid (NK.out.below hy NK.out.lt)
  replace R := Lib.hid (R.out.below hy)
  replace N3 := Lib.hid (N3.out.below hy N3.out.lt)
  replace N5 := Lib.hid (N5.out.below hy N5.out.lt)
  replace P := Lib.hid (P.out.below hy)
  replace N7 := Lib.hid (N7.out.below hy N7.out.lt)
  replace N9 := Lib.hid (N9.out.below hy N9.out.lt)
  clear hy
  go_wp2
  go_ret
  exact ⟨rfl, K.out⟩
end Go.Proofs.Ytbhiknojjmdbiaa

/- Bytes as a string. Nothing of the program. -/
namespace Go.Proofs.Ytbhiknojjmdbiaa
open Go.RowKit

/-- The string of bytes. -/
def str (zs : List Nat) : ByteArray := ⟨(zs.map UInt8.ofNat).toArray⟩

theorem str_inj (a b : List Nat) (ha : ∀ c ∈ a, c < 256) (hb : ∀ c ∈ b, c < 256) (h : str a = str b) : a = b := by
  have h1 : a.map UInt8.ofNat = b.map UInt8.ofNat := by
    have := congrArg (fun s : ByteArray => s.data.toList) h
    simpa [str] using this
  have h2 : ∀ l : List Nat, (∀ c ∈ l, c < 256) → (l.map UInt8.ofNat).map UInt8.toNat = l := by
    intro l hl
    rw [List.map_map]
    conv => rhs; rw [← List.map_id l]
    apply List.map_congr_left
    intro c hc
    have := hl c hc
    simp only [Function.comp_apply, id_eq, UInt8.toNat_ofNat']
    omega
  rw [← h2 a ha, ← h2 b hb, h1]
theorem str_append (a b : List Nat) : str (a ++ b) = str a ++ str b := by
  apply ByteArray.ext
  simp [str]

theorem strOfNums_nat (zs : List Nat) : strOfNums (zs.map fun n : Nat => (n : Int)) = str zs := by
  unfold strOfNums str
  rw [List.map_map]
  rfl

theorem conv_rd {P : Program} (w : World) (src dst e : TypeId) (hs : P.underlying src = some (.slice e)) (he : P.underlying e = some (.int .u8)) (hd : P.underlying dst = some .string) (v : Value) (zs : List Nat) (h : Rd w v (nus .u8 zs)) :
    (convert src dst v).run P w = .ok (.string (str zs)) w := by
  obtain ⟨a, cap, rfl, _, _, hx⟩ := h
  rw [nus_length] at hx ⊢
  rw [← strOfNums_nat]
  rcases hx with hx | ⟨b, off, rfl, _, hc⟩
  · obtain rfl := (nus_nil _ _).1 hx
    cases a with
    | none => exact run_convert_bytes_nil w src e hs he _ _ dst hd
    | some ad =>
      rw [run_convert_bytes_string w src dst e _ _ _ hs he hd, List.length_nil, run_bytesToString w ad 0 cap [] (by simp [loadCells, go_sem])]
      rfl
  · exact run_convert_bytes_arg w src e hs he b off zs.length cap (zs.map fun n : Nat => (n : Int)) (by simp) (fun i hi => by
      rw [hc i hi, nus_get _ _ _ hi]
      simp [List.getD_eq_getElem?_getD, List.getElem?_eq_getElem hi]) dst hd
end Go.Proofs.Ytbhiknojjmdbiaa

