/- Texts that the walks of this seat lean on, put together. -/
import Derived.DeepKeys
import Derived.Test.YthkaadcgiplolaaDoorTk
import Derived.Test.YthkaadcgiplolaaDoorM19
import Derived.Test.YthkaadcgiplolaaDoorM35
namespace Go.Proofs.YthkaadcgiplolaaDoor
open Go.RowKit
theorem u16_wf (n : Nat) (h : n < 65536) : (Lit.int .u16 (n : Int)).wf = true := by
  simp [Lit.wf, IntKind.min, IntKind.max, IntKind.signed, IntKind.bits]
  omega
theorem key_u16 (d n : Nat) (h : n < 65536) : Tryd.prog.keyLits (d + 1) 25 [.int .u16 (n : Int)] = some [.int .u16 (n : Int)] := by
  unfold Program.keyLits
  rw [Tryd.underlying25]
  simp [u16_wf n h]
def litA (v : Bool) (S : List Nat) : List Lit := .bool v :: S.map fun n : Nat => .int .u8 (n : Int)
theorem litA_inj {v v' : Bool} {S S' : List Nat} (h : litA v S = litA v' S') : v = v' ∧ S = S' := by
  unfold litA at h
  simp only [List.cons.injEq, Lit.bool.injEq] at h
  refine ⟨h.1, ?_⟩
  have q := h.2
  clear h
  induction S generalizing S' with
  | nil => cases S' with
    | nil => rfl
    | cons _ _ => simp at q
  | cons a r ih => cases S' with
    | nil => simp at q
    | cons b s =>
      simp only [List.map_cons, List.cons.injEq, Lit.int.injEq, true_and] at q
      rw [ih q.2]
      congr 1
      omega
theorem litA_len (v : Bool) (S : List Nat) : (litA v S).length = S.length + 1 := by simp [litA]
theorem lits_adr (v : Bool) (S : List Nat) (hl : S.length = 16) (hb : ∀ c ∈ S, c < 256) : Tryd.prog.keyLits 3 24 (cellsA v S).toList = some (litA v S) := by
  obtain ⟨b0, b1, b2, b3, b4, b5, b6, b7, b8, b9, b10, b11, b12, b13, b14, b15, rfl⟩ := list16 S hl
  exact lits24 v b0 b1 b2 b3 b4 b5 b6 b7 b8 b9 b10 b11 b12 b13 b14 b15 hb
set_option maxRecDepth 100000 in
theorem lits29 (p sp dp : Nat) (hp : p < 256) (h1 : sp < 65536) (h2 : dp < 65536) (S D : Array Value) (hS : S.size = 17) (hD : D.size = 17) (lS lD : List Lit) (eS : Tryd.prog.keyLits 3 24 S.toList = some lS) (eD : Tryd.prog.keyLits 3 24 D.toList = some lD) :
    Tryd.prog.keyLits 4 27 (kcells p S D sp dp).toList = some ([.int .u8 (p : Int)] ++ (lS ++ (lD ++ [.int .u16 (sp : Int), .int .u16 (dp : Int)]))) := by
  obtain ⟨x0, x1, x2, x3, x4, x5, x6, x7, x8, x9, x10, x11, x12, x13, x14, x15, x16, rfl⟩ := cells17 S hS
  obtain ⟨y0, y1, y2, y3, y4, y5, y6, y7, y8, y9, y10, y11, y12, y13, y14, y15, y16, rfl⟩ := cells17 D hD
  have eS : Tryd.prog.keyLits 3 24 [x0, x1, x2, x3, x4, x5, x6, x7, x8, x9, x10, x11, x12, x13, x14, x15, x16] = some lS := eS
  have eD : Tryd.prog.keyLits 3 24 [y0, y1, y2, y3, y4, y5, y6, y7, y8, y9, y10, y11, y12, y13, y14, y15, y16] = some lD := eD
  show Tryd.prog.keyLits 4 27 [.int .u8 (p : Int), x0, x1, x2, x3, x4, x5, x6, x7, x8, x9, x10, x11, x12, x13, x14, x15, x16, y0, y1, y2, y3, y4, y5, y6, y7, y8, y9, y10, y11, y12, y13, y14, y15, y16, .int .u16 (sp : Int), .int .u16 (dp : Int)] = _
  unfold Program.keyLits
  rw [Tryd.underlying27]
  have hc : Tryd.prog.cellsOf 5 = 1 := by kernel_rfl
  have hc2 : Tryd.prog.cellsOf 24 = 17 := by kernel_rfl
  have hc3 : Tryd.prog.cellsOf 25 = 1 := by kernel_rfl
  have hc4 : Tryd.prog.cellsOf 27 = 37 := by kernel_rfl
  simp [hc, hc2, hc3, hc4, eS, eD, key5 2 p hp, key_u16 2 sp h1, key_u16 2 dp h2]
set_option maxRecDepth 100000 in
theorem lits39 (p q : Nat) (hp : p < 256) (h1 : q < 65536) (D : Array Value) (hD : D.size = 17) (lD : List Lit) (eD : Tryd.prog.keyLits 3 24 D.toList = some lD) :
    Tryd.prog.keyLits 4 39 (vcs p D q).toList = some ([.int .u8 (p : Int)] ++ (lD ++ [.int .u16 (q : Int)])) := by
  obtain ⟨y0, y1, y2, y3, y4, y5, y6, y7, y8, y9, y10, y11, y12, y13, y14, y15, y16, rfl⟩ := cells17 D hD
  have eD : Tryd.prog.keyLits 3 24 [y0, y1, y2, y3, y4, y5, y6, y7, y8, y9, y10, y11, y12, y13, y14, y15, y16] = some lD := eD
  show Tryd.prog.keyLits 4 39 [.int .u8 (p : Int), y0, y1, y2, y3, y4, y5, y6, y7, y8, y9, y10, y11, y12, y13, y14, y15, y16, .int .u16 (q : Int)] = _
  unfold Program.keyLits
  rw [Tryd.underlying39]
  have hc : Tryd.prog.cellsOf 5 = 1 := by kernel_rfl
  have hc2 : Tryd.prog.cellsOf 24 = 17 := by kernel_rfl
  have hc3 : Tryd.prog.cellsOf 25 = 1 := by kernel_rfl
  have hc4 : Tryd.prog.cellsOf 39 = 19 := by kernel_rfl
  simp [hc, hc2, hc3, hc4, eD, key5 2 p hp, key_u16 2 q h1]
theorem formed27 (X : Array Value) (hX : X.size = 37) : (Value.agg X).formed Tryd.prog 27 = true := by
  have hc3 : Tryd.prog.cellsOf 27 = 37 := by kernel_rfl
  simp [Value.formed, Tryd.underlying27, hc3, hX]
theorem formed39 (X : Array Value) (hX : X.size = 19) : (Value.agg X).formed Tryd.prog 39 = true := by
  have hc3 : Tryd.prog.cellsOf 39 = 19 := by kernel_rfl
  simp [Value.formed, Tryd.underlying39, hc3, hX]
theorem formed17 (X : Array Value) (hX : X.size = 17) : (Value.agg X).formed Tryd.prog 24 = true := by
  have hc3 : Tryd.prog.cellsOf 24 = 17 := by kernel_rfl
  simp [Value.formed, Tryd.underlying24, hc3, hX]
theorem fl_lits (k : Fl) (h : k.Fit) : Tryd.prog.keyLits 4 27 k.cs.toList = some ([.int .u8 (k.p : Int)] ++ (litA k.sv k.S ++ (litA k.dv k.D ++ [.int .u16 (k.sp : Int), .int .u16 (k.dp : Int)]))) :=
  lits29 _ _ _ h.p h.sp h.dp _ _ (by rw [cellsA_size, h.lS]) (by rw [cellsA_size, h.lD]) _ _ (lits_adr _ _ h.lS h.bS) (lits_adr _ _ h.lD h.bD)
theorem eq_fl_yes (k : Fl) (h : k.Fit) (w : World) : (Op.equalIn 10000 27 (.agg k.cs) (.agg k.cs)).run Tryd.prog w = .ok true w := by
  obtain ⟨r, hr, he⟩ := run_equalIn_deep (P := Tryd.prog) 9996 4 27 (by kernel_rfl) w 4 4 _ _ _ _ (formed27 _ (k.cs_size h)) (formed27 _ (k.cs_size h)) (fl_lits k h) (fl_lits k h)
  have e : r = true := he.2 rfl
  subst e
  exact hr
theorem eq_fl_no (a b : Fl) (ha : a.Fit) (hb : b.Fit) (hn : a ≠ b) (w : World) : (Op.equalIn 10000 27 (.agg a.cs) (.agg b.cs)).run Tryd.prog w = .ok false w := by
  obtain ⟨r, hr, he⟩ := run_equalIn_deep (P := Tryd.prog) 9996 4 27 (by kernel_rfl) w 4 4 _ _ _ _ (formed27 _ (a.cs_size ha)) (formed27 _ (b.cs_size hb)) (fl_lits a ha) (fl_lits b hb)
  cases r with
  | false => exact hr
  | true =>
    exfalso
    have q := he.1 rfl
    simp only [List.singleton_append, List.cons.injEq, Lit.int.injEq, true_and] at q
    obtain ⟨q0, q⟩ := q
    obtain ⟨q1, q⟩ := List.append_inj q (by rw [litA_len, litA_len, ha.lS, hb.lS])
    obtain ⟨q2, q⟩ := List.append_inj q (by rw [litA_len, litA_len, ha.lD, hb.lD])
    simp only [List.cons.injEq, Lit.int.injEq, true_and, and_true] at q
    obtain ⟨e1, e2⟩ := litA_inj q1
    obtain ⟨e3, e4⟩ := litA_inj q2
    apply hn
    obtain ⟨p, sv, S, dv, D, sp, dp⟩ := a
    obtain ⟨p', sv', S', dv', D', sp', dp'⟩ := b
    simp only at *
    obtain rfl : p = p' := by omega
    obtain rfl : sp = sp' := by omega
    obtain rfl : dp = dp' := by omega
    subst e1 e2 e3 e4
    rfl
theorem vip_lits (k : Fl) (h : k.Fit) : Tryd.prog.keyLits 4 39 (vipc k).toList = some ([.int .u8 (k.p : Int)] ++ (litA k.dv k.D ++ [.int .u16 (k.dp : Int)])) :=
  lits39 _ _ h.p h.dp _ (by rw [cellsA_size, h.lD]) _ (lits_adr _ _ h.lD h.bD)
theorem vipc_size (k : Fl) (h : k.Fit) : (vipc k).size = 19 := vcs_size _ _ _ (by rw [cellsA_size, h.lD])
theorem eq_vip_yes (a b : Fl) (ha : a.Fit) (hb : b.Fit) (h1 : a.p = b.p) (h2 : a.dv = b.dv) (h3 : a.D = b.D) (h4 : a.dp = b.dp) (w : World) : (Op.equalIn 10000 39 (.agg (vipc a)) (.agg (vipc b))).run Tryd.prog w = .ok true w := by
  obtain ⟨r, hr, he⟩ := run_equalIn_deep (P := Tryd.prog) 9996 4 39 (by kernel_rfl) w 4 4 _ _ _ _ (formed39 _ (vipc_size a ha)) (formed39 _ (vipc_size b hb)) (vip_lits a ha) (vip_lits b hb)
  have e : r = true := he.2 (by rw [h1, h2, h3, h4])
  subst e
  exact hr
theorem eq_vip_no (a b : Fl) (ha : a.Fit) (hb : b.Fit) (h : ¬ (a.p = b.p ∧ (a.dv = b.dv ∧ a.D = b.D) ∧ a.dp = b.dp)) (w : World) : (Op.equalIn 10000 39 (.agg (vipc a)) (.agg (vipc b))).run Tryd.prog w = .ok false w := by
  obtain ⟨r, hr, he⟩ := run_equalIn_deep (P := Tryd.prog) 9996 4 39 (by kernel_rfl) w 4 4 _ _ _ _ (formed39 _ (vipc_size a ha)) (formed39 _ (vipc_size b hb)) (vip_lits a ha) (vip_lits b hb)
  cases r with
  | false => exact hr
  | true =>
    exfalso
    have q := he.1 rfl
    simp only [List.singleton_append, List.cons.injEq, Lit.int.injEq, true_and] at q
    obtain ⟨q0, q⟩ := q
    obtain ⟨q2, q⟩ := List.append_inj q (by rw [litA_len, litA_len, ha.lD, hb.lD])
    simp only [List.cons.injEq, Lit.int.injEq, true_and, and_true] at q
    exact h ⟨by omega, litA_inj q2, by omega⟩
theorem eq_adr_yes (v : Bool) (S : List Nat) (hl : S.length = 16) (hb : ∀ c ∈ S, c < 256) (w : World) : (Op.equalIn 10000 24 (.agg (cellsA v S)) (.agg (cellsA v S))).run Tryd.prog w = .ok true w := eq_adr v S hl hb w
theorem eq_adr_no (v : Bool) (S : List Nat) (v' : Bool) (S' : List Nat) (hl : S.length = 16) (hb : ∀ c ∈ S, c < 256) (hl' : S'.length = 16) (hb' : ∀ c ∈ S', c < 256) (h : ¬ (v = v' ∧ S = S')) (w : World) : (Op.equalIn 10000 24 (.agg (cellsA v S)) (.agg (cellsA v' S'))).run Tryd.prog w = .ok false w := by
  obtain ⟨r, hr, he⟩ := run_equalIn_deep (P := Tryd.prog) 9997 3 24 (by kernel_rfl) w 3 3 _ _ _ _ (formed17 (cellsA v S) (by rw [cellsA_size, hl])) (formed17 (cellsA v' S') (by rw [cellsA_size, hl'])) (lits_adr v S hl hb) (lits_adr v' S' hl' hb')
  cases r with
  | false => exact hr
  | true => exact absurd (litA_inj (he.1 rfl)) h
end Go.Proofs.YthkaadcgiplolaaDoor
