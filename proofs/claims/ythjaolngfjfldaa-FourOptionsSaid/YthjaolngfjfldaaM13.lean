/- Texts that the walks of this seat lean on, put together: each has its own remark below. -/
import Derived.Deep.CutBlock
import Derived.Deep.DeepCutAuto
import Derived.Test.YthjaolngfjfldaaM01
import Derived.Test.YthjaolngfjfldaaM05
import Derived.Test.YthjaolngfjfldaaM06
import Derived.Test.YthjaolngfjfldaaM09
import Derived.Test.YthjaolngfjfldaaM11

/- Headers that were made, with something wrong: each reason. Nothing of the program. -/
namespace Go.Proofs.Ythjaolngfjfldaa
open Go.RowKit

/-- Eight bytes. -/
def tl8 : List Nat := [1, 2, 3, 4, 5, 6, 7, 8]
/-- A packet of eight bytes behind its header. -/
def rb (h l f p x y s1 s2 s3 : Nat) : List Nat := [h, 0, 0, l, 0, 0, f, 0, 64, p, x, y, 10, s1, s2, s3, 192, 168, 0, 1, 1, 2, 3, 4, 5, 6, 7, 8]
theorem rb_len (h l f p x y s1 s2 s3 : Nat) : (rb h l f p x y s1 s2 s3).length = 28 := rfl
theorem rb_lt (h l f p x y s1 s2 s3 : Nat) (a : h < 256) (b : l < 256) (c : f < 256) (d : p < 256) (e : x < 256) (g : y < 256) (i : s1 < 256) (j : s2 < 256) (k : s3 < 256) : ∀ c ∈ rb h l f p x y s1 s2 s3, c < 256 := by
  unfold rb; simp only [List.mem_cons, List.not_mem_nil, or_false]; rintro c hc; rcases hc with rfl | rfl | rfl | rfl | rfl | rfl | rfl | rfl | rfl | rfl | rfl | rfl | rfl | rfl | rfl | rfl | rfl | rfl | rfl | rfl | rfl | rfl | rfl | rfl | rfl | rfl | rfl | rfl <;> omega
theorem rb_mk (u : Nat) : ∃ x y, x < 256 ∧ y < 256 ∧ mk4 (kS u) kD 6 8 ++ tl8 = rb 69 28 64 6 x y (u / 65536 % 256) (u / 256 % 256) (u % 256) ∧ ck ((rb 69 28 64 6 x y (u / 65536 % 256) (u / 256 % 256) (u % 256)).take 20) = 0 := by
  have hck := mk4_ck (kS u) kD rfl rfl 6 8
  refine ⟨ck (mk0 (kS u) kD 6 8) / 256 % 256, ck (mk0 (kS u) kD 6 8) % 256, by omega, by omega, rfl, ?_⟩
  exact hck
section
variable (x y s1 s2 s3 : Nat)
theorem rq1 : ff ((rb 69 28 64 6 x y s1 s2 s3).take 19) = 1 := by unfold ff; rw [if_pos (by show 19 < 20; omega)]
theorem rq2 : ff ((rb 69 28 64 6 x y s1 s2 s3).set 0 85) = 3 := by
  unfold ff; rw [if_neg (by show ¬ 28 < 20; omega), if_pos (Or.inl (by show ¬ 85 / 16 = 4; omega))]
theorem rq3 : ff ((rb 69 28 64 6 x y s1 s2 s3).set 0 68) = 3 := by
  unfold ff; rw [if_neg (by show ¬ 28 < 20; omega), if_pos (Or.inr (Or.inl (by show 4 * (68 % 16) < 20; omega)))]
theorem rq4 : ff (((rb 69 28 64 6 x y s1 s2 s3).set 2 0).set 3 19) = 3 := by
  unfold ff; rw [if_neg (by show ¬ 28 < 20; omega), if_pos (Or.inr (Or.inr (by show 0 * 256 + 19 < 4 * (69 % 16); omega)))]
theorem rq5 : ff ((rb 69 28 64 6 x y s1 s2 s3).take 27) = 1 := by
  unfold ff; rw [if_neg (by show ¬ 27 < 20; omega), if_neg (by show ¬ (¬ 69 / 16 = 4 ∨ 4 * (69 % 16) < 20 ∨ 0 * 256 + 28 < 4 * (69 % 16)); omega), if_pos (by show 27 < 0 * 256 + 28; omega)]
theorem rq_ck (f p : Nat) (Z : List Nat) (hZ : Z = rb 69 28 f p x y s1 s2 s3) : ff Z = if ck (Z.take 20) ≠ 0 then 4 else if (f * 256) % 16384 ≠ 0 then 5 else if p ≠ 6 ∧ p ≠ 17 then 6 else 0 := by
  have e1 : Z.length = 28 := by rw [hZ]; rfl
  have e2 : Z.getD 0 0 = 69 := by rw [hZ]; rfl
  have e3 : u2 Z 2 = 28 := by rw [hZ]; simp [u2, rb]
  have e4 : u2 Z 6 = f * 256 := by rw [hZ]; simp [u2, rb]
  have e5 : Z.getD 9 0 = p := by rw [hZ]; simp [rb]
  have e6 : hs Z = 20 := by unfold hs; rw [e2]
  clear hZ
  unfold ff; rw [e1, e2, e3, e4, e5, e6, if_neg (by omega), if_neg (by omega), if_neg (by omega)]
theorem rq0 (h : ck ((rb 69 28 64 6 x y s1 s2 s3).take 20) = 0) : ff (rb 69 28 64 6 x y s1 s2 s3) = 0 := by
  rw [rq_ck x y s1 s2 s3 64 6 _ rfl, if_neg (by rw [h]; omega), if_neg (by omega), if_neg (by omega)]
/-- One bit turned. -/
def tog (x : Nat) : Nat := if x % 2 = 0 then x + 1 else x - 1
theorem tog_lt (h : x < 256) : tog x < 256 := by unfold tog; split <;> omega
theorem xor_one (h : x < 256) : bits .xor .u8 (x : Int) 1 = ((tog x : Nat) : Int) := by
  have : ∀ x : Fin 256, bits .xor .u8 ((x.1 : Nat) : Int) 1 = ((tog x.1 : Nat) : Int) := by decide +kernel
  exact this ⟨x, h⟩
theorem rq6 (hx : x < 256) (hy : y < 256) (h : ck ((rb 69 28 64 6 x y s1 s2 s3).take 20) = 0) : ff ((rb 69 28 64 6 x y s1 s2 s3).set 10 (tog x)) = 4 := by
  have e : (rb 69 28 64 6 x y s1 s2 s3).set 10 (tog x) = rb 69 28 64 6 (tog x) y s1 s2 s3 := rfl
  have ht := tog_lt x hx
  rw [rq_ck (tog x) y s1 s2 s3 64 6 _ e, if_pos]
  have hu : u2 ((rb 69 28 64 6 x y s1 s2 s3).take 20) 10 = x * 256 + y := rfl
  have h1 := ck_other ((rb 69 28 64 6 x y s1 s2 s3).take 20) (by show 12 ≤ 20; omega) h (tog x * 256 + y) (by omega) (by rw [hu]; unfold tog; split <;> omega)
  have e2 : ov ((rb 69 28 64 6 x y s1 s2 s3).take 20) (bg 2 (tog x * 256 + y)) 10 = ((rb 69 28 64 6 x y s1 s2 s3).set 10 (tog x)).take 20 := by
    have eb : bg 2 (tog x * 256 + y) = [tog x, y] := by
      have a1 : (tog x * 256 + y) / 256 % 256 = tog x := by omega
      have a2 : (tog x * 256 + y) % 256 = y := by omega
      simp [bg, a1, a2]
    rw [eb]; rfl
  rw [e2] at h1
  exact h1
/-- What a header's checksum is put to: the header with none. -/
theorem rq_fix (f p : Nat) (c : Nat) (hc : c = ck ((rb 69 28 f p 0 0 s1 s2 s3).take 20)) : ck ((((rb 69 28 f p 0 0 s1 s2 s3).set 10 (c / 256)).set 11 (c % 256)).take 20) = 0 := by
  have h1 := ck_put ((rb 69 28 f p 0 0 s1 s2 s3).take 20) (by show 12 ≤ 20; omega) (by show 0 < 69; omega) (by simp [u2, rb])
  rw [← hc] at h1
  have hl : c < 65536 := by have := ck_le ((rb 69 28 f p 0 0 s1 s2 s3).take 20); omega
  have e2 : ov ((rb 69 28 f p 0 0 s1 s2 s3).take 20) (bg 2 c) 10 = (((rb 69 28 f p 0 0 s1 s2 s3).set 10 (c / 256)).set 11 (c % 256)).take 20 := by
    have eb : bg 2 c = [c / 256, c % 256] := by
      have a1 : c / 256 % 256 = c / 256 := by omega
      simp [bg, a1]
    rw [eb]; rfl
  rw [e2] at h1
  exact h1
theorem rq7 (c : Nat) (hc : c = ck ((rb 69 28 32 6 0 0 s1 s2 s3).take 20)) : ff (((rb 69 28 32 6 0 0 s1 s2 s3).set 10 (c / 256)).set 11 (c % 256)) = 5 := by
  have h := rq_fix s1 s2 s3 32 6 c hc
  have e : ((rb 69 28 32 6 0 0 s1 s2 s3).set 10 (c / 256)).set 11 (c % 256) = rb 69 28 32 6 (c / 256) (c % 256) s1 s2 s3 := rfl
  rw [rq_ck (c / 256) (c % 256) s1 s2 s3 32 6 _ e, if_neg (by rw [h]; omega), if_pos (by omega)]
theorem rq8 (c : Nat) (hc : c = ck ((rb 69 28 64 1 0 0 s1 s2 s3).take 20)) : ff (((rb 69 28 64 1 0 0 s1 s2 s3).set 10 (c / 256)).set 11 (c % 256)) = 6 := by
  have h := rq_fix s1 s2 s3 64 1 c hc
  have e : ((rb 69 28 64 1 0 0 s1 s2 s3).set 10 (c / 256)).set 11 (c % 256) = rb 69 28 64 1 (c / 256) (c % 256) s1 s2 s3 := rfl
  rw [rq_ck (c / 256) (c % 256) s1 s2 s3 64 1 _ e, if_neg (by rw [h]; omega), if_neg (by omega), if_pos (by omega)]
end
end Go.Proofs.Ythjaolngfjfldaa

/- The walk of FourReasons. -/
namespace Go.Proofs.Ythjaolngfjfldaa
open Go.RowKit

theorem eq_head0 (w : World) : (Op.equalIn 10000 29 (.agg #[Value.int .i64 0, .int .i64 0, .int .u8 0, .bool false, .int .u8 0, .int .u8 0, .int .u8 0, .int .u8 0, .int .u8 0, .int .u8 0, .int .u8 0, .int .u8 0, .int .u8 0, .int .u8 0, .int .u8 0, .int .u8 0, .int .u8 0, .int .u8 0, .int .u8 0, .int .u8 0, .bool false, .int .u8 0, .int .u8 0, .int .u8 0, .int .u8 0, .int .u8 0, .int .u8 0, .int .u8 0, .int .u8 0, .int .u8 0, .int .u8 0, .int .u8 0, .int .u8 0, .int .u8 0, .int .u8 0, .int .u8 0, .int .u8 0]) (.agg #[Value.int .i64 0, .int .i64 0, .int .u8 0, .bool false, .int .u8 0, .int .u8 0, .int .u8 0, .int .u8 0, .int .u8 0, .int .u8 0, .int .u8 0, .int .u8 0, .int .u8 0, .int .u8 0, .int .u8 0, .int .u8 0, .int .u8 0, .int .u8 0, .int .u8 0, .int .u8 0, .bool false, .int .u8 0, .int .u8 0, .int .u8 0, .int .u8 0, .int .u8 0, .int .u8 0, .int .u8 0, .int .u8 0, .int .u8 0, .int .u8 0, .int .u8 0, .int .u8 0, .int .u8 0, .int .u8 0, .int .u8 0, .int .u8 0])).run Try.prog w = .ok true w := by
  obtain ⟨r, hr, he⟩ := run_equalIn_deep (P := Try.prog) 9996 4 29 (by kernel_rfl) w 4 4 _ _ ([.int .i64 0, .int .i64 0, .int .u8 0, .bool false, .int .u8 0, .int .u8 0, .int .u8 0, .int .u8 0, .int .u8 0, .int .u8 0, .int .u8 0, .int .u8 0, .int .u8 0, .int .u8 0, .int .u8 0, .int .u8 0, .int .u8 0, .int .u8 0, .int .u8 0, .int .u8 0, .bool false, .int .u8 0, .int .u8 0, .int .u8 0, .int .u8 0, .int .u8 0, .int .u8 0, .int .u8 0, .int .u8 0, .int .u8 0, .int .u8 0, .int .u8 0, .int .u8 0, .int .u8 0, .int .u8 0, .int .u8 0, .int .u8 0]) ([.int .i64 0, .int .i64 0, .int .u8 0, .bool false, .int .u8 0, .int .u8 0, .int .u8 0, .int .u8 0, .int .u8 0, .int .u8 0, .int .u8 0, .int .u8 0, .int .u8 0, .int .u8 0, .int .u8 0, .int .u8 0, .int .u8 0, .int .u8 0, .int .u8 0, .int .u8 0, .bool false, .int .u8 0, .int .u8 0, .int .u8 0, .int .u8 0, .int .u8 0, .int .u8 0, .int .u8 0, .int .u8 0, .int .u8 0, .int .u8 0, .int .u8 0, .int .u8 0, .int .u8 0, .int .u8 0, .int .u8 0, .int .u8 0]) (by kernel_rfl) (by kernel_rfl) (by kernel_rfl) (by kernel_rfl)
  have e : r = true := he.2 rfl
  subst e
  exact hr
/-- A number put into a row of the call's own. -/
theorem own_put {w : World} {base g n cap : Nat} {zs : List Nat} (h : w.ownsRow base 5 1 (.slice (some ⟨g, 0, none⟩) n cap) n (nus .u8 zs)) (j v : Nat) :
    (w.setCell ⟨g, j, none⟩ (.int .u8 (v : Int))).ownsRow base 5 1 (.slice (some ⟨g, 0, none⟩) n cap) n (nus .u8 (zs.set j v)) ∧ w.grownBy (w.setCell ⟨g, j, none⟩ (.int .u8 (v : Int))) (some g) := by
  have := h.stored j (.int .u8 (v : Int))
  rw [nus_set] at this
  exact this
theorem own_cells {w : World} {base g n cap : Nat} {zs : List Nat} (h : w.ownsRow base 5 1 (.slice (some ⟨g, 0, none⟩) n cap) n (nus .u8 zs)) (j : Nat) (hj : j < n) :
    w.cell? ⟨g, j, none⟩ = some (.int .u8 ((zs.getD j 0 : Nat) : Int)) ∧ w.frozen? ⟨g, j, none⟩ = false := by
  have hl : zs.length = n := by have := h.1; rw [nus_length] at this; omega
  refine ⟨?_, h.frozenAt j⟩
  rw [h.cellAt j (by omega), nus_get _ _ _ (by omega)]
theorem grown_le {w w' : World} {r : Option Nat} (h : w.grownBy w' r) : w.heap.size ≤ w'.heap.size := h.size
/-- What the switch leaves. -/
def SwRel (w : World) (bk : Nat) (kc : Array Value) (base gb cb x y s1 s2 s3 : Nat) (z wt : Value) (wx : World) : Prop :=
  Below w.heap.size w wx ∧ Blk wx bk 42 kc ∧
    ((∃ (Z : List Nat) (len f : Nat), z = .slice (some ⟨gb, 0, none⟩) len cb ∧ wt = .int .i64 (f : Int) ∧ f < 5 ∧ Rd wx z (nus .u8 Z) ∧ (∀ c ∈ Z, c < 256) ∧ ff Z = f) ∨
     (∃ f p t : Nat, z = .slice (some ⟨gb, 0, none⟩) 28 cb ∧ wt = .int .i64 (t : Int) ∧ ((t = 5 ∧ f = 32 ∧ p = 6) ∨ (t = 6 ∧ f = 64 ∧ p = 1)) ∧ wx.ownsRow base 5 1 z 28 (nus .u8 (rb 69 28 f p x y s1 s2 s3))))
/-- What stands behind the checksum. -/
def FxRel (w : World) (bk : Nat) (kc : Array Value) (gb cb : Nat) (z wt : Value) (wx : World) : Prop :=
  Below w.heap.size w wx ∧ Blk wx bk 42 kc ∧
    (∃ (Z : List Nat) (len f : Nat), z = .slice (some ⟨gb, 0, none⟩) len cb ∧ wt = .int .i64 (f : Int) ∧ f < 7 ∧ Rd wx z (nus .u8 Z) ∧ (∀ c ∈ Z, c < 256) ∧ ff Z = f)

set_option maxRecDepth 100000 in
set_option maxHeartbeats 4000000 in
theorem reasons_walk (n k : Int) (w : World) :
    Calls Try.prog 5 #[.int .i64 n, .int .i64 k] w fun e w' => e = .returned (.bool true) ∧ Below w.heap.size w w' := by
  obtain ⟨u, hu⟩ : ∃ u : Nat, u = (n % 1073741824).toNat := ⟨_, rfl⟩
  have hun : n % 1073741824 = (u : Int) := by omega
  have hul : u < 1073741824 := by omega
  obtain ⟨q, hq⟩ : ∃ q : Nat, q = (k % 9).toNat := ⟨_, rfl⟩
  have hqm : k % 9 = (q : Int) := by omega
  have hql : q < 9 := by omega
  have bS : ∀ c ∈ kS u, c < 256 := by simp [kS]; omega
  obtain ⟨x, y, hx, hy0, hB, hck⟩ := rb_mk u
  obtain ⟨s1, hs1⟩ : ∃ s, s = u / 65536 % 256 := ⟨_, rfl⟩
  obtain ⟨s2, hs2⟩ : ∃ s, s = u / 256 % 256 := ⟨_, rfl⟩
  obtain ⟨s3, hs3⟩ : ∃ s, s = u % 256 := ⟨_, rfl⟩
  have b1 : s1 < 256 := by omega
  have b2 : s2 < 256 := by omega
  have b3 : s3 < 256 := by omega
  rw [← hs1, ← hs2, ← hs3] at hB hck
  obtain ⟨Sa, hSa⟩ : ∃ x, x = a4 (kS u) := ⟨_, rfl⟩
  obtain ⟨Da, hDa⟩ : ∃ x, x = a4 kD := ⟨_, rfl⟩
  have zS : Sa.size = 17 := by rw [hSa]; rfl
  have zD : Da.size = 17 := by rw [hDa]; rfl
  obtain ⟨kc, hkc⟩ : ∃ kc, kc = kcells 6 Sa Da (1000 + u % 50000) 80 := ⟨_, rfl⟩
  have CK := Lib.hid (show Calls Try.prog 16 #[.int .i64 n, .bool false, .bool false] w fun e w' => e = .returned (.agg kc) ∧ Below w.heap.size w w' from by rw [hkc, hSa, hDa]; exact key_tcp n false u _ w hun hul rfl)
  have CM := Lib.hid (show ∀ W, Calls Try.prog 11 #[.agg Sa, .agg Da, .int .u8 6, .int .i64 8] W fun e w' => ∃ x, e = .returned (.tuple #[x, .bool true]) ∧ w'.ownsRow W.heap.size 5 1 x 20 (nus .u8 (mk4 (kS u) kD 6 8)) ∧ Below W.heap.size W w' from fun W => by rw [hSa, hDa]; exact make_yes (kS u ++ List.replicate 12 0) (kD ++ List.replicate 12 0) 6 8 W rfl rfl (by intro c hc; rcases List.mem_append.1 hc with h | h; exact bS c h; have := (List.mem_replicate.1 h).2; omega) (by decide) (by omega) (by omega))
  have CD := Lib.hid (show ∀ W z Z, Rd W z (nus .u8 Z) → (∀ c ∈ Z, c < 256) → ff Z ≠ 0 → Calls Try.prog 14 #[z, .agg Da] W fun e w' => e = .returned (.slice none 0 0) ∧ Below W.heap.size W w' from fun W z Z h hb hf => by rw [hDa]; exact dest_no z Z false _ W h hb (.inl hf))
  have CN := Lib.hid (fun W => round_any k 9 W (by omega) (by omega))
  rw [hqm] at CN
  have kp1 := Lib.hid (show (kc.toList.drop 1).take Sa.toList.length = Sa.toList by rw [hkc]; exact kcells_src _ _ _ _ _)
  have kp2 := Lib.hid (show (kc.toList.drop 18).take Da.toList.length = Da.toList by rw [hkc]; exact kcells_dst _ _ _ _ _ zS)
  have IS := Lib.hid (i24.trans (congrArg some (show (17 : Nat) = Sa.toList.length by simp [zS])))
  have ID := Lib.hid (i24.trans (congrArg some (show (17 : Nat) = Da.toList.length by simp [zD])))
  have zk : kc.size = 37 := by rw [hkc]; exact kcells_size _ _ _ _ _ zS zD
  have AS : Sa.all (·.oneCell') = true := by rw [hSa]; exact a4_all _
  have AD : Da.all (·.oneCell') = true := by rw [hDa]; exact a4_all _
  have Ak := Lib.hid (show kc.all (·.oneCell') = true by rw [hkc]; exact kcells_all _ _ _ _ _ AS AD)
  have Zk := Lib.hid (i42.trans (congrArg some zk.symm))
  have Yk : Hid (kc.size = Array.size (#[Value.int .u8 0, .bool false, .int .u8 0, .int .u8 0, .int .u8 0, .int .u8 0, .int .u8 0, .int .u8 0, .int .u8 0, .int .u8 0, .int .u8 0, .int .u8 0, .int .u8 0, .int .u8 0, .int .u8 0, .int .u8 0, .int .u8 0, .int .u8 0, .bool false, .int .u8 0, .int .u8 0, .int .u8 0, .int .u8 0, .int .u8 0, .int .u8 0, .int .u8 0, .int .u8 0, .int .u8 0, .int .u8 0, .int .u8 0, .int .u8 0, .int .u8 0, .int .u8 0, .int .u8 0, .int .u8 0, .int .u16 0, .int .u16 0] : Array Value)) := zk
  obtain ⟨M, hM⟩ : ∃ M, M = mk4 (kS u) kD 6 8 := ⟨_, rfl⟩
  rw [← hM] at CM hB
  have HB := Lib.hid hB
  have HCK := Lib.hid hck
  clear hu hun hul hq hqm hs1 hs2 hs3 bS hB hck hSa hDa zS zD hkc zk AS AD hM
  go_enter Try.func5, Try.ntmps5
  go_wp2_with fail
  refine CK.out.mono ?_; rintro e W1 ⟨rfl, hy⟩
  have K1 := Lib.hid hy
  clear hy CK
  go_wp2_with (((with_reducible refine wpList_blk_store (op := ⟨none, .store 42 (.tmp 5) (.tmp 14), _, _, _, _⟩) ?sg1 42 (.tmp 5) (.tmp 14) ?so1 (W1.heap.size) kc ?sx1 ?sy1 (Blk.new W1 42 #[Value.int .u8 0, .bool false, .int .u8 0, .int .u8 0, .int .u8 0, .int .u8 0, .int .u8 0, .int .u8 0, .int .u8 0, .int .u8 0, .int .u8 0, .int .u8 0, .int .u8 0, .int .u8 0, .int .u8 0, .int .u8 0, .int .u8 0, .int .u8 0, .bool false, .int .u8 0, .int .u8 0, .int .u8 0, .int .u8 0, .int .u8 0, .int .u8 0, .int .u8 0, .int .u8 0, .int .u8 0, .int .u8 0, .int .u8 0, .int .u8 0, .int .u8 0, .int .u8 0, .int .u8 0, .int .u8 0, .int .u16 0, .int .u16 0]) Yk.out Zk.out Ak.out ?_); (case sg1 => rfl); (case so1 => rfl); (case sx1 => rfl); (case sy1 => rfl)))
  intro W2 hA hF hB
  have K2 := Lib.hid ((K1.out.alloc K1.out.size (.cells #[Value.int .u8 0, .bool false, .int .u8 0, .int .u8 0, .int .u8 0, .int .u8 0, .int .u8 0, .int .u8 0, .int .u8 0, .int .u8 0, .int .u8 0, .int .u8 0, .int .u8 0, .int .u8 0, .int .u8 0, .int .u8 0, .int .u8 0, .int .u8 0, .bool false, .int .u8 0, .int .u8 0, .int .u8 0, .int .u8 0, .int .u8 0, .int .u8 0, .int .u8 0, .int .u8 0, .int .u8 0, .int .u8 0, .int .u8 0, .int .u8 0, .int .u8 0, .int .u8 0, .int .u8 0, .int .u8 0, .int .u16 0, .int .u16 0] 42)).trans (hB _ K1.out.size))
  have A2 := Lib.hid hA
  have l1 := Lib.hid (run_part_load (P := Try.prog) 25 1 Sa.toList _ hA kp1.out Try.underlying25 rfl IS.out)
  have l2 := Lib.hid (run_part_load (P := Try.prog) 25 18 Da.toList _ hA kp2.out Try.underlying25 rfl ID.out)
  rw [Array.toArray_toList] at l1 l2
  clear hA hF hB K1
  go_wp2_with (first | ((with_reducible refine wpList_load_want (op := ⟨some 17, .load 25 (.tmp 16), _, _, _, _⟩) ?wg2 25 (.tmp 16) ?wo2 ⟨W1.heap.size, 1, none⟩ ?wx2 (.agg Sa) l1.out ?_); (case wg2 => rfl); (case wo2 => rfl); (case wx2 => rfl)) | ((with_reducible refine wpList_load_want (op := ⟨some 19, .load 25 (.tmp 18), _, _, _, _⟩) ?wg3 25 (.tmp 18) ?wo3 ⟨W1.heap.size, 18, none⟩ ?wx3 (.agg Da) l2.out ?_); (case wg3 => rfl); (case wo3 => rfl); (case wx3 => rfl)))
  refine (CM.out W2).mono ?_
  rintro e W3 ⟨xv, rfl, ox, hy⟩
  obtain ⟨gx, cx, rfl, hcx, hcxm, -, -⟩ := own_at ox (by omega)
  have K3 := Lib.hid (K2.out.trans (hy.mono K2.out.size))
  have A3 := Lib.hid (A2.out.below hy A2.out.lt)
  have X3 := Lib.hid (Rd.own ox)
  clear ox hy K2 A2 l1 l2 CM
  have b6 := (Below.refl W3.heap.size W3).alloc (Nat.le_refl _) (.cells #[] 5)
  have O6 := Lib.hid (own_none W3 5)
  have L6 := Lib.hid b6
  have R6 := Lib.hid (X3.out.below b6)
  clear b6
  go_wp2_with (at_builtin; refine wpList_app rfl (.tmp 30) (.tmp 31) rfl W3.heap.size _ 0 [] rfl O6.out (some _) 20 cx _ rfl R6.out ?c1 ?c2 ?c3 ?c4)
  case c1 => intro e; cases e
  case c2 => omega
  case c3 => exact L6.out.size
  intro v7 W7 o7 g7
  have L7 := Lib.hid (L6.out.grown g7 L6.out.size (fun k e => (O6.out.lt k e).1))
  have O7 := Lib.hid (show W7.ownsRow W3.heap.size 5 1 v7 20 (nus .u8 M) from by simpa using o7)
  clear o7 g7 O6 L6 R6
  have b8 := (Below.refl W7.heap.size W7).alloc (Nat.le_refl _) (.cells (nus .u8 tl8).toArray 5)
  have R8 := Lib.hid (rd_lit W7 .u8 5 tl8 8 (0, 0) rfl (by simp [maxLen]))
  have O8 := Lib.hid (row_under O7.out b8)
  have L8 := Lib.hid (L7.out.trans (b8.mono L7.out.size))
  clear b8 O7 L7
  go_wp2_with (at_builtin; refine wpList_app rfl (.tmp 32) (.tmp 33) rfl W3.heap.size _ 20 M rfl O8.out (some _) 8 8 tl8 rfl R8.out ?e1 ?e2 ?e3 ?e4)
  case e1 => intro e; cases e
  case e2 => omega
  case e3 => exact L8.out.size
  intro v9 W9 o9 g9
  have L9 := Lib.hid (L8.out.grown g9 L8.out.size (fun k e => (O8.out.lt k e).1))
  rw [HB.out] at o9
  obtain ⟨gb, cb, rfl, hcb, hcbm, hgb, -⟩ := own_at o9 (by omega)
  have O9 := Lib.hid o9
  have K9 := Lib.hid (K3.out.trans (L9.out.mono K3.out.size))
  have A9 := Lib.hid (A3.out.below L9.out A3.out.lt)
  have K3s := K3.out.size
  have A3s := A3.out.lt
  clear o9 g9 O8 L8 R8 K3 A3 X3 L9 HB
  go_wp2_with fail
  refine (CN.out W9).mono ?_
  rintro e W10 ⟨rfl, rfl⟩
  clear CN
  have hgw : w.heap.size ≤ gb := Nat.le_trans (Nat.le_trans K3s (Nat.le_refl _)) hgb
  have hbk : W1.heap.size < gb := Nat.lt_of_lt_of_le A3s hgb
  go_upto_block 0 with fail
  go_cut [8, 9] (fun z wt wx => SwRel w W1.heap.size kc W3.heap.size gb cb x y s1 s2 s3 z wt wx)
  case first =>
    have hq9 : q = 0 ∨ q = 1 ∨ q = 2 ∨ q = 3 ∨ q = 4 ∨ q = 5 ∨ q = 6 ∨ q = 7 ∨ q = 8 := by omega
    rcases hq9 with rfl | rfl | rfl | rfl | rfl | rfl | rfl | rfl | rfl
    · go_wp2_with fail
      go_meet
      case rel => exact ⟨K9.out, A9.out, .inl ⟨_, 28, 0, rfl, rfl, by omega, Rd.own O9.out, (rb_lt _ _ _ _ _ _ _ _ _ (by omega) (by omega) (by omega) (by omega) hx hy0 b1 b2 b3), rq0 _ _ _ _ _ HCK.out⟩⟩
    · go_wp2_with fail
      go_meet
      case rel => exact ⟨K9.out, A9.out, .inl ⟨_, 19, 1, rfl, rfl, by omega, (Rd.own O9.out).front 19 (by rw [rb_len]; omega), fun c hc => (rb_lt _ _ _ _ _ _ _ _ _ (by omega) (by omega) (by omega) (by omega) hx hy0 b1 b2 b3) c (List.mem_of_mem_take hc), rq1 _ _ _ _ _⟩⟩
    · have c0 : W9.cell? ⟨gb, 0, none⟩ = some (.int .u8 69) := (own_cells O9.out 0 (by omega)).1
      have f0 : W9.frozen? ⟨gb, 0, none⟩ = false := (own_cells O9.out 0 (by omega)).2
      have p0 := own_put O9.out 0 (85)
      have h0 := K9.out.grown p0.2 K9.out.size (fun k e => by cases e; exact hgw)
      have a0 := (p0.2.block _ A9.out.lt (by simp; omega)).trans A9.out
      have KK := Lib.hid h0
      have AA := Lib.hid (show Blk _ _ _ _ from a0)
      have OO := Lib.hid p0.1
      clear p0 h0 a0
      go_wp2_with fail
      go_meet
      case rel => exact ⟨KK.out, AA.out, .inl ⟨_, 28, 3, rfl, rfl, by omega, Rd.own OO.out, (rb_lt 85 28 64 6 x y s1 s2 s3 (by omega) (by omega) (by omega) (by omega) hx hy0 b1 b2 b3), rq2 _ _ _ _ _⟩⟩
    · have c0 : W9.cell? ⟨gb, 0, none⟩ = some (.int .u8 69) := (own_cells O9.out 0 (by omega)).1
      have f0 : W9.frozen? ⟨gb, 0, none⟩ = false := (own_cells O9.out 0 (by omega)).2
      have p0 := own_put O9.out 0 (68)
      have h0 := K9.out.grown p0.2 K9.out.size (fun k e => by cases e; exact hgw)
      have a0 := (p0.2.block _ A9.out.lt (by simp; omega)).trans A9.out
      have KK := Lib.hid h0
      have AA := Lib.hid (show Blk _ _ _ _ from a0)
      have OO := Lib.hid p0.1
      clear p0 h0 a0
      go_wp2_with fail
      go_meet
      case rel => exact ⟨KK.out, AA.out, .inl ⟨_, 28, 3, rfl, rfl, by omega, Rd.own OO.out, (rb_lt 68 28 64 6 x y s1 s2 s3 (by omega) (by omega) (by omega) (by omega) hx hy0 b1 b2 b3), rq3 _ _ _ _ _⟩⟩
    · have c2 : W9.cell? ⟨gb, 2, none⟩ = some (.int .u8 0) := (own_cells O9.out 2 (by omega)).1
      have f2 : W9.frozen? ⟨gb, 2, none⟩ = false := (own_cells O9.out 2 (by omega)).2
      have c3 : W9.cell? ⟨gb, 3, none⟩ = some (.int .u8 28) := (own_cells O9.out 3 (by omega)).1
      have f3 : W9.frozen? ⟨gb, 3, none⟩ = false := (own_cells O9.out 3 (by omega)).2
      have p0 := own_put O9.out 2 (0)
      have p1 := own_put p0.1 3 (19)
      have h0 := K9.out.grown p0.2 K9.out.size (fun k e => by cases e; exact hgw)
      have a0 := (p0.2.block _ A9.out.lt (by simp; omega)).trans A9.out
      have h1 := h0.grown p1.2 h0.size (fun k e => by cases e; exact hgw)
      have a1 := (p1.2.block _ (Nat.lt_of_lt_of_le A9.out.lt (grown_le p0.2)) (by simp; omega)).trans a0
      have KK := Lib.hid h1
      have AA := Lib.hid (show Blk _ _ _ _ from a1)
      have OO := Lib.hid p1.1
      clear p1 h1 a1 p0 h0 a0
      go_wp2_with fail
      go_meet
      case rel => exact ⟨KK.out, AA.out, .inl ⟨_, 28, 3, rfl, rfl, by omega, Rd.own OO.out, (rb_lt 69 19 64 6 x y s1 s2 s3 (by omega) (by omega) (by omega) (by omega) hx hy0 b1 b2 b3), rq4 _ _ _ _ _⟩⟩
    · go_wp2_with fail
      go_meet
      case rel => exact ⟨K9.out, A9.out, .inl ⟨_, 27, 1, rfl, rfl, by omega, (Rd.own O9.out).front 27 (by rw [rb_len]; omega), fun c hc => (rb_lt _ _ _ _ _ _ _ _ _ (by omega) (by omega) (by omega) (by omega) hx hy0 b1 b2 b3) c (List.mem_of_mem_take hc), rq5 _ _ _ _ _⟩⟩
    · have c10 : W9.cell? ⟨gb, 10, none⟩ = some (.int .u8 (x : Int)) := (own_cells O9.out 10 (by omega)).1
      have f10 : W9.frozen? ⟨gb, 10, none⟩ = false := (own_cells O9.out 10 (by omega)).2
      have p0 := own_put O9.out 10 (tog x)
      have h0 := K9.out.grown p0.2 K9.out.size (fun k e => by cases e; exact hgw)
      have a0 := (p0.2.block _ A9.out.lt (by simp; omega)).trans A9.out
      have KK := Lib.hid h0
      have AA := Lib.hid (show Blk _ _ _ _ from a0)
      have OO := Lib.hid p0.1
      clear p0 h0 a0
      have hxo := xor_one x hx
      go_wp2_with fail
      go_meet
      case rel => exact ⟨KK.out, AA.out, .inl ⟨_, 28, 4, rfl, rfl, by omega, Rd.own OO.out, (rb_lt 69 28 64 6 (tog x) y s1 s2 s3 (by omega) (by omega) (by omega) (by omega) (tog_lt x hx) hy0 b1 b2 b3), rq6 _ _ _ _ _ hx hy0 HCK.out⟩⟩
    · have c6 : W9.cell? ⟨gb, 6, none⟩ = some (.int .u8 64) := (own_cells O9.out 6 (by omega)).1
      have f6 : W9.frozen? ⟨gb, 6, none⟩ = false := (own_cells O9.out 6 (by omega)).2
      have c7 : W9.cell? ⟨gb, 7, none⟩ = some (.int .u8 0) := (own_cells O9.out 7 (by omega)).1
      have f7 : W9.frozen? ⟨gb, 7, none⟩ = false := (own_cells O9.out 7 (by omega)).2
      have p0 := own_put O9.out 6 (32)
      have p1 := own_put p0.1 7 (0)
      have h0 := K9.out.grown p0.2 K9.out.size (fun k e => by cases e; exact hgw)
      have a0 := (p0.2.block _ A9.out.lt (by simp; omega)).trans A9.out
      have h1 := h0.grown p1.2 h0.size (fun k e => by cases e; exact hgw)
      have a1 := (p1.2.block _ (Nat.lt_of_lt_of_le A9.out.lt (grown_le p0.2)) (by simp; omega)).trans a0
      have KK := Lib.hid h1
      have AA := Lib.hid (show Blk _ _ _ _ from a1)
      have OO := Lib.hid p1.1
      clear p1 h1 a1 p0 h0 a0
      go_wp2_with fail
      go_meet
      case rel => exact ⟨KK.out, AA.out, .inr ⟨32, 6, 5, rfl, rfl, .inl ⟨rfl, rfl, rfl⟩, OO.out⟩⟩
    · have c9 : W9.cell? ⟨gb, 9, none⟩ = some (.int .u8 6) := (own_cells O9.out 9 (by omega)).1
      have f9 : W9.frozen? ⟨gb, 9, none⟩ = false := (own_cells O9.out 9 (by omega)).2
      have p0 := own_put O9.out 9 (1)
      have h0 := K9.out.grown p0.2 K9.out.size (fun k e => by cases e; exact hgw)
      have a0 := (p0.2.block _ A9.out.lt (by simp; omega)).trans A9.out
      have KK := Lib.hid h0
      have AA := Lib.hid (show Blk _ _ _ _ from a0)
      have OO := Lib.hid p0.1
      clear p0 h0 a0
      go_wp2_with fail
      go_meet
      case rel => exact ⟨KK.out, AA.out, .inr ⟨64, 1, 6, rfl, rfl, .inr ⟨rfl, rfl, rfl⟩, OO.out⟩⟩
  case rest =>
    obtain ⟨hK, hA, hR⟩ := hcut
    have K9 := Lib.hid hK
    have A9 := Lib.hid hA
    clear hK hA
    rcases hR with ⟨Z, len, f, rfl, rfl, hf5, hr, hb, hff⟩ | ⟨f, p, t, rfl, rfl, ht, ho⟩
    · have R9 := Lib.hid hr
      have BB := Lib.hid hb
      have FF := Lib.hid hff
      clear hr hb hff
      by_cases hf0 : f = 0
      · subst hf0
        go_wp2_with fail
        refine (read_any _ Z _ R9.out BB.out).mono ?_; rintro e W11 ⟨rfl, hy⟩
        have K11 := Lib.hid (K9.out.trans (hy.mono K9.out.size))
        have A11 := Lib.hid (A9.out.below hy A9.out.lt)
        have R11 := Lib.hid (R9.out.below hy)
        clear hy K9 A9 R9
        rw [FF.out]
        have zc := hd_size' Z
        have Ac := Lib.hid (hd_all Z)
        generalize hd Z = hc1 at *
        have Zc := Lib.hid (i29.trans (congrArg some zc.symm))
        have Yc : Hid (hc1.size = Array.size (#[Value.int .i64 0, .int .i64 0, .int .u8 0, .bool false, .int .u8 0, .int .u8 0, .int .u8 0, .int .u8 0, .int .u8 0, .int .u8 0, .int .u8 0, .int .u8 0, .int .u8 0, .int .u8 0, .int .u8 0, .int .u8 0, .int .u8 0, .int .u8 0, .int .u8 0, .int .u8 0, .bool false, .int .u8 0, .int .u8 0, .int .u8 0, .int .u8 0, .int .u8 0, .int .u8 0, .int .u8 0, .int .u8 0, .int .u8 0, .int .u8 0, .int .u8 0, .int .u8 0, .int .u8 0, .int .u8 0, .int .u8 0, .int .u8 0] : Array Value)) := zc
        clear zc
        go_wp2_with (((with_reducible refine wpList_blk_store (op := ⟨none, .store 29 (.tmp 11) (.tmp 102), _, _, _, _⟩) ?sg4 29 (.tmp 11) (.tmp 102) ?so4 (W11.heap.size) hc1 ?sx4 ?sy4 (Blk.new W11 29 #[Value.int .i64 0, .int .i64 0, .int .u8 0, .bool false, .int .u8 0, .int .u8 0, .int .u8 0, .int .u8 0, .int .u8 0, .int .u8 0, .int .u8 0, .int .u8 0, .int .u8 0, .int .u8 0, .int .u8 0, .int .u8 0, .int .u8 0, .int .u8 0, .int .u8 0, .int .u8 0, .bool false, .int .u8 0, .int .u8 0, .int .u8 0, .int .u8 0, .int .u8 0, .int .u8 0, .int .u8 0, .int .u8 0, .int .u8 0, .int .u8 0, .int .u8 0, .int .u8 0, .int .u8 0, .int .u8 0, .int .u8 0, .int .u8 0]) Yc.out Zc.out Ac.out ?_); (case sg4 => rfl); (case so4 => rfl); (case sx4 => rfl); (case sy4 => rfl)))
        intro W12 hA hF hB
        have b7 := ((Below.refl W11.heap.size W11).alloc (Nat.le_refl _) (.cells #[Value.int .i64 0, .int .i64 0, .int .u8 0, .bool false, .int .u8 0, .int .u8 0, .int .u8 0, .int .u8 0, .int .u8 0, .int .u8 0, .int .u8 0, .int .u8 0, .int .u8 0, .int .u8 0, .int .u8 0, .int .u8 0, .int .u8 0, .int .u8 0, .int .u8 0, .int .u8 0, .bool false, .int .u8 0, .int .u8 0, .int .u8 0, .int .u8 0, .int .u8 0, .int .u8 0, .int .u8 0, .int .u8 0, .int .u8 0, .int .u8 0, .int .u8 0, .int .u8 0, .int .u8 0, .int .u8 0, .int .u8 0, .int .u8 0] 29)).trans (hB _ (Nat.le_refl _))
        have K12 := Lib.hid (K11.out.trans (b7.mono K11.out.size))
        have A12 := Lib.hid (A11.out.below b7 A11.out.lt)
        have R12 := Lib.hid (R11.out.below b7)
        have H12 := Lib.hid hA
        clear hA hF hB b7 K11 A11 R11
        go_wp2_with fail
        refine (awake_any _).mono ?_; rintro e W14 ⟨rfl, hy⟩
        have K14 := Lib.hid (K12.out.trans (hy.mono K12.out.size))
        go_wp2
        go_ret
        exact ⟨rfl, K14.out⟩
      · have HF0 : Hid (f ≠ 0) := hf0
        have hd5 : ((f : Int) == 5) = false := by rw [beq_eq_false_iff_ne]; omega
        have hd6 : ((f : Int) == 6) = false := by rw [beq_eq_false_iff_ne]; omega
        have hd0 : ((f : Int) == 0) = false := by rw [beq_eq_false_iff_ne]; omega
        clear hf0
        go_wp2_with fail
        refine (read_any _ Z _ R9.out BB.out).mono ?_; rintro e W11 ⟨rfl, hy⟩
        have K11 := Lib.hid (K9.out.trans (hy.mono K9.out.size))
        have A11 := Lib.hid (A9.out.below hy A9.out.lt)
        have R11 := Lib.hid (R9.out.below hy)
        clear hy K9 A9 R9
        rw [FF.out]
        rw [show hd Z = h0 from by unfold hd; rw [if_neg (by rw [FF.out]; exact HF0.out)]]
        have zc := h0_size
        have Ac := Lib.hid h0_all
        have hz0 := h0_eq
        generalize h0 = hc1 at *
        have Zc := Lib.hid (i29.trans (congrArg some zc.symm))
        have Yc : Hid (hc1.size = Array.size (#[Value.int .i64 0, .int .i64 0, .int .u8 0, .bool false, .int .u8 0, .int .u8 0, .int .u8 0, .int .u8 0, .int .u8 0, .int .u8 0, .int .u8 0, .int .u8 0, .int .u8 0, .int .u8 0, .int .u8 0, .int .u8 0, .int .u8 0, .int .u8 0, .int .u8 0, .int .u8 0, .bool false, .int .u8 0, .int .u8 0, .int .u8 0, .int .u8 0, .int .u8 0, .int .u8 0, .int .u8 0, .int .u8 0, .int .u8 0, .int .u8 0, .int .u8 0, .int .u8 0, .int .u8 0, .int .u8 0, .int .u8 0, .int .u8 0] : Array Value)) := zc
        have QZ0 := Lib.hid hz0
        clear zc hz0
        go_wp2_with (((with_reducible refine wpList_blk_store (op := ⟨none, .store 29 (.tmp 11) (.tmp 102), _, _, _, _⟩) ?sg5 29 (.tmp 11) (.tmp 102) ?so5 (W11.heap.size) hc1 ?sx5 ?sy5 (Blk.new W11 29 #[Value.int .i64 0, .int .i64 0, .int .u8 0, .bool false, .int .u8 0, .int .u8 0, .int .u8 0, .int .u8 0, .int .u8 0, .int .u8 0, .int .u8 0, .int .u8 0, .int .u8 0, .int .u8 0, .int .u8 0, .int .u8 0, .int .u8 0, .int .u8 0, .int .u8 0, .int .u8 0, .bool false, .int .u8 0, .int .u8 0, .int .u8 0, .int .u8 0, .int .u8 0, .int .u8 0, .int .u8 0, .int .u8 0, .int .u8 0, .int .u8 0, .int .u8 0, .int .u8 0, .int .u8 0, .int .u8 0, .int .u8 0, .int .u8 0]) Yc.out Zc.out Ac.out ?_); (case sg5 => rfl); (case so5 => rfl); (case sx5 => rfl); (case sy5 => rfl)))
        intro W12 hA hF hB
        have b7 := ((Below.refl W11.heap.size W11).alloc (Nat.le_refl _) (.cells #[Value.int .i64 0, .int .i64 0, .int .u8 0, .bool false, .int .u8 0, .int .u8 0, .int .u8 0, .int .u8 0, .int .u8 0, .int .u8 0, .int .u8 0, .int .u8 0, .int .u8 0, .int .u8 0, .int .u8 0, .int .u8 0, .int .u8 0, .int .u8 0, .int .u8 0, .int .u8 0, .bool false, .int .u8 0, .int .u8 0, .int .u8 0, .int .u8 0, .int .u8 0, .int .u8 0, .int .u8 0, .int .u8 0, .int .u8 0, .int .u8 0, .int .u8 0, .int .u8 0, .int .u8 0, .int .u8 0, .int .u8 0, .int .u8 0] 29)).trans (hB _ (Nat.le_refl _))
        have K12 := Lib.hid (K11.out.trans (b7.mono K11.out.size))
        have A12 := Lib.hid (A11.out.below b7 A11.out.lt)
        have R12 := Lib.hid (R11.out.below b7)
        have H12 := Lib.hid hA
        clear hA hF hB b7 K11 A11 R11
        have l1 := Lib.hid (run_blk_load (P := Try.prog) 29 W11.heap.size _ H12.out Try.underlying29 rfl Zc.out)
        have l2 := Lib.hid (run_part_load (P := Try.prog) 25 18 Da.toList _ A12.out kp2.out Try.underlying25 rfl ID.out)
        rw [Array.toArray_toList] at l2
        have QH : ∀ W, (Op.equalIn 10000 29 (.agg hc1) (.agg #[Value.int .i64 0, .int .i64 0, .int .u8 0, .bool false, .int .u8 0, .int .u8 0, .int .u8 0, .int .u8 0, .int .u8 0, .int .u8 0, .int .u8 0, .int .u8 0, .int .u8 0, .int .u8 0, .int .u8 0, .int .u8 0, .int .u8 0, .int .u8 0, .int .u8 0, .int .u8 0, .bool false, .int .u8 0, .int .u8 0, .int .u8 0, .int .u8 0, .int .u8 0, .int .u8 0, .int .u8 0, .int .u8 0, .int .u8 0, .int .u8 0, .int .u8 0, .int .u8 0, .int .u8 0, .int .u8 0, .int .u8 0, .int .u8 0])).run Try.prog W = .ok true W := fun W => by rw [QZ0.out]; exact eq_head0 W
        go_wp2_with (first | ((with_reducible refine wpList_load_want (op := ⟨some 111, .load 29 (.tmp 11), _, _, _, _⟩) ?wg6 29 (.tmp 11) ?wo6 ⟨W11.heap.size, 0, none⟩ ?wx6 (.agg hc1) l1.out ?_); (case wg6 => rfl); (case wo6 => rfl); (case wx6 => rfl)) | ((with_reducible refine wpList_load_want (op := ⟨some 117, .load 25 (.tmp 116), _, _, _, _⟩) ?wg7 25 (.tmp 116) ?wo7 ⟨W1.heap.size, 18, none⟩ ?wx7 (.agg Da) l2.out ?_); (case wg7 => rfl); (case wo7 => rfl); (case wx7 => rfl)))
        refine (CD.out W12 _ Z R12.out BB.out (by rw [FF.out]; exact HF0.out)).mono ?_; rintro e W13 ⟨rfl, hy⟩
        have K13 := Lib.hid (K12.out.trans (hy.mono K12.out.size))
        clear hy K12
        go_wp2_with fail
        refine (awake_any _).mono ?_; rintro e W14 ⟨rfl, hy⟩
        have K14 := Lib.hid (K13.out.trans (hy.mono K13.out.size))
        go_wp2
        go_ret
        exact ⟨rfl, K14.out⟩
    · rcases ht with ⟨rfl, rfl, rfl⟩ | ⟨rfl, rfl, rfl⟩
      · have O9 := Lib.hid ho
        clear ho
        have c10 : wc.cell? ⟨gb, 10, none⟩ = some (.int .u8 (x : Int)) := (own_cells O9.out 10 (by omega)).1
        have f10 : wc.frozen? ⟨gb, 10, none⟩ = false := (own_cells O9.out 10 (by omega)).2
        have c11 : wc.cell? ⟨gb, 11, none⟩ = some (.int .u8 (y : Int)) := (own_cells O9.out 11 (by omega)).1
        have f11 : wc.frozen? ⟨gb, 11, none⟩ = false := (own_cells O9.out 11 (by omega)).2
        have p0 := own_put O9.out 10 0
        have p1 := own_put p0.1 11 0
        have h0 := K9.out.grown p0.2 K9.out.size (fun k e => by cases e; exact hgw)
        have h1 := h0.grown p1.2 h0.size (fun k e => by cases e; exact hgw)
        have a0 := (p0.2.block _ A9.out.lt (by simp; omega)).trans A9.out
        have a1 := (p1.2.block _ (Nat.lt_of_lt_of_le A9.out.lt (grown_le p0.2)) (by simp; omega)).trans a0
        have K10 := Lib.hid (show Below w.heap.size w ((wc.setCell ⟨gb, 10, none⟩ (.int .u8 0)).setCell ⟨gb, 11, none⟩ (.int .u8 0)) from h1)
        have A10 := Lib.hid (show Blk ((wc.setCell ⟨gb, 10, none⟩ (.int .u8 0)).setCell ⟨gb, 11, none⟩ (.int .u8 0)) W1.heap.size 42 kc from a1)
        have O10 := Lib.hid (show World.ownsRow ((wc.setCell ⟨gb, 10, none⟩ (.int .u8 0)).setCell ⟨gb, 11, none⟩ (.int .u8 0)) W3.heap.size 5 1 (.slice (some ⟨gb, 0, none⟩) 28 cb) 28 (nus .u8 (rb 69 28 32 6 0 0 s1 s2 s3)) from p1.1)
        clear p0 p1 h0 h1 a0 a1 K9 A9 O9
        go_wp2_with fail
        generalize ((wc.setCell ⟨gb, 10, none⟩ (.int .u8 0)).setCell ⟨gb, 11, none⟩ (.int .u8 0)) = wd at K10 A10 O10 ⊢
        clear c10 f10 c11 f11
        refine (rcheck_any _ ((rb 69 28 32 6 0 0 s1 s2 s3).take 20) _ ((Rd.own O10.out).front 20 (by rw [rb_len]; omega)) (by rw [List.length_take, rb_len]; omega) (fun c hc => (rb_lt 69 28 32 6 0 0 s1 s2 s3 (by omega) (by omega) (by omega) (by omega) (by omega) (by omega) b1 b2 b3) c (List.mem_of_mem_take hc))).mono ?_
        rintro e w13 ⟨rfl, rfl⟩
        obtain ⟨c, hc⟩ : ∃ c, c = ck ((rb 69 28 32 6 0 0 s1 s2 s3).take 20) := ⟨_, rfl⟩
        have hcl : c < 65536 := by have := ck_le ((rb 69 28 32 6 0 0 s1 s2 s3).take 20); omega
        have hff := rq7 s1 s2 s3 c hc
        rw [← hc]
        clear hc
        obtain ⟨d1, hd1⟩ : ∃ d, d = c / 256 := ⟨_, rfl⟩
        obtain ⟨d2, hd2⟩ : ∃ d, d = c % 256 := ⟨_, rfl⟩
        rw [← hd1, ← hd2] at hff
        have e1 : IntKind.u8.wrap ((c : Int) / 256) = (d1 : Int) := by rw [IntKind.wrap_u8]; omega
        have e2 : IntKind.u8.wrap (c : Int) = (d2 : Int) := by rw [IntKind.wrap_u8]; omega
        have hd1l : d1 < 256 := by omega
        have hd2l : d2 < 256 := by omega
        clear hd1 hd2
        have c10 : wd.cell? ⟨gb, 10, none⟩ = some (.int .u8 0) := (own_cells O10.out 10 (by omega)).1
        have f10 : wd.frozen? ⟨gb, 10, none⟩ = false := (own_cells O10.out 10 (by omega)).2
        have c11 : wd.cell? ⟨gb, 11, none⟩ = some (.int .u8 0) := (own_cells O10.out 11 (by omega)).1
        have f11 : wd.frozen? ⟨gb, 11, none⟩ = false := (own_cells O10.out 11 (by omega)).2
        have p0 := own_put O10.out 10 d1
        have p1 := own_put p0.1 11 d2
        have h0 := K10.out.grown p0.2 K10.out.size (fun k e => by cases e; exact hgw)
        have h1 := h0.grown p1.2 h0.size (fun k e => by cases e; exact hgw)
        have a0 := (p0.2.block _ A10.out.lt (by simp; omega)).trans A10.out
        have a1 := (p1.2.block _ (Nat.lt_of_lt_of_le A10.out.lt (grown_le p0.2)) (by simp; omega)).trans a0
        have K9 := Lib.hid (show Below w.heap.size w ((wd.setCell ⟨gb, 10, none⟩ (.int .u8 (d1 : Int))).setCell ⟨gb, 11, none⟩ (.int .u8 (d2 : Int))) from h1)
        have A9 := Lib.hid (show Blk ((wd.setCell ⟨gb, 10, none⟩ (.int .u8 (d1 : Int))).setCell ⟨gb, 11, none⟩ (.int .u8 (d2 : Int))) W1.heap.size 42 kc from a1)
        have R9 := Lib.hid (Rd.own (show World.ownsRow ((wd.setCell ⟨gb, 10, none⟩ (.int .u8 (d1 : Int))).setCell ⟨gb, 11, none⟩ (.int .u8 (d2 : Int))) W3.heap.size 5 1 (.slice (some ⟨gb, 0, none⟩) 28 cb) 28 (nus .u8 (((rb 69 28 32 6 0 0 s1 s2 s3).set 10 d1).set 11 d2)) from p1.1))
        obtain ⟨Z, hZ⟩ : ∃ Z, Z = (((rb 69 28 32 6 0 0 s1 s2 s3).set 10 d1).set 11 d2) := ⟨_, rfl⟩
        have BB : Hid (∀ c ∈ Z, c < 256) := by
          show ∀ c ∈ Z, c < 256
          rw [hZ]
          exact rb_lt 69 28 32 6 d1 d2 s1 s2 s3 (by omega) (by omega) (by omega) (by omega) (by omega) (by omega) b1 b2 b3
        rw [← hZ] at R9 hff
        have FF := Lib.hid hff
        have HF0 : Hid ((5 : Nat) ≠ 0) := show (5 : Nat) ≠ 0 by omega
        clear p0 p1 h0 h1 a0 a1 K10 A10 O10 hZ hff
        go_wp2_with fail
        generalize ((wd.setCell ⟨gb, 10, none⟩ (.int .u8 (d1 : Int))).setCell ⟨gb, 11, none⟩ (.int .u8 (d2 : Int))) = we at K9 A9 R9 ⊢
        clear c10 f10 c11 f11 e1 e2
        refine (read_any _ Z _ R9.out BB.out).mono ?_; rintro e W11 ⟨rfl, hy⟩
        have K11 := Lib.hid (K9.out.trans (hy.mono K9.out.size))
        have A11 := Lib.hid (A9.out.below hy A9.out.lt)
        have R11 := Lib.hid (R9.out.below hy)
        clear hy K9 A9 R9
        rw [FF.out]
        rw [show hd Z = h0 from by unfold hd; rw [if_neg (by rw [FF.out]; exact HF0.out)]]
        have zc := h0_size
        have Ac := Lib.hid h0_all
        have hz0 := h0_eq
        generalize h0 = hc1 at *
        have Zc := Lib.hid (i29.trans (congrArg some zc.symm))
        have Yc : Hid (hc1.size = Array.size (#[Value.int .i64 0, .int .i64 0, .int .u8 0, .bool false, .int .u8 0, .int .u8 0, .int .u8 0, .int .u8 0, .int .u8 0, .int .u8 0, .int .u8 0, .int .u8 0, .int .u8 0, .int .u8 0, .int .u8 0, .int .u8 0, .int .u8 0, .int .u8 0, .int .u8 0, .int .u8 0, .bool false, .int .u8 0, .int .u8 0, .int .u8 0, .int .u8 0, .int .u8 0, .int .u8 0, .int .u8 0, .int .u8 0, .int .u8 0, .int .u8 0, .int .u8 0, .int .u8 0, .int .u8 0, .int .u8 0, .int .u8 0, .int .u8 0] : Array Value)) := zc
        have QZ0 := Lib.hid hz0
        clear zc hz0
        go_wp2_with (((with_reducible refine wpList_blk_store (op := ⟨none, .store 29 (.tmp 11) (.tmp 102), _, _, _, _⟩) ?sg8 29 (.tmp 11) (.tmp 102) ?so8 (W11.heap.size) hc1 ?sx8 ?sy8 (Blk.new W11 29 #[Value.int .i64 0, .int .i64 0, .int .u8 0, .bool false, .int .u8 0, .int .u8 0, .int .u8 0, .int .u8 0, .int .u8 0, .int .u8 0, .int .u8 0, .int .u8 0, .int .u8 0, .int .u8 0, .int .u8 0, .int .u8 0, .int .u8 0, .int .u8 0, .int .u8 0, .int .u8 0, .bool false, .int .u8 0, .int .u8 0, .int .u8 0, .int .u8 0, .int .u8 0, .int .u8 0, .int .u8 0, .int .u8 0, .int .u8 0, .int .u8 0, .int .u8 0, .int .u8 0, .int .u8 0, .int .u8 0, .int .u8 0, .int .u8 0]) Yc.out Zc.out Ac.out ?_); (case sg8 => rfl); (case so8 => rfl); (case sx8 => rfl); (case sy8 => rfl)))
        intro W12 hA hF hB
        have b7 := ((Below.refl W11.heap.size W11).alloc (Nat.le_refl _) (.cells #[Value.int .i64 0, .int .i64 0, .int .u8 0, .bool false, .int .u8 0, .int .u8 0, .int .u8 0, .int .u8 0, .int .u8 0, .int .u8 0, .int .u8 0, .int .u8 0, .int .u8 0, .int .u8 0, .int .u8 0, .int .u8 0, .int .u8 0, .int .u8 0, .int .u8 0, .int .u8 0, .bool false, .int .u8 0, .int .u8 0, .int .u8 0, .int .u8 0, .int .u8 0, .int .u8 0, .int .u8 0, .int .u8 0, .int .u8 0, .int .u8 0, .int .u8 0, .int .u8 0, .int .u8 0, .int .u8 0, .int .u8 0, .int .u8 0] 29)).trans (hB _ (Nat.le_refl _))
        have K12 := Lib.hid (K11.out.trans (b7.mono K11.out.size))
        have A12 := Lib.hid (A11.out.below b7 A11.out.lt)
        have R12 := Lib.hid (R11.out.below b7)
        have H12 := Lib.hid hA
        clear hA hF hB b7 K11 A11 R11
        have l1 := Lib.hid (run_blk_load (P := Try.prog) 29 W11.heap.size _ H12.out Try.underlying29 rfl Zc.out)
        have l2 := Lib.hid (run_part_load (P := Try.prog) 25 18 Da.toList _ A12.out kp2.out Try.underlying25 rfl ID.out)
        rw [Array.toArray_toList] at l2
        have QH : ∀ W, (Op.equalIn 10000 29 (.agg hc1) (.agg #[Value.int .i64 0, .int .i64 0, .int .u8 0, .bool false, .int .u8 0, .int .u8 0, .int .u8 0, .int .u8 0, .int .u8 0, .int .u8 0, .int .u8 0, .int .u8 0, .int .u8 0, .int .u8 0, .int .u8 0, .int .u8 0, .int .u8 0, .int .u8 0, .int .u8 0, .int .u8 0, .bool false, .int .u8 0, .int .u8 0, .int .u8 0, .int .u8 0, .int .u8 0, .int .u8 0, .int .u8 0, .int .u8 0, .int .u8 0, .int .u8 0, .int .u8 0, .int .u8 0, .int .u8 0, .int .u8 0, .int .u8 0, .int .u8 0])).run Try.prog W = .ok true W := fun W => by rw [QZ0.out]; exact eq_head0 W
        go_wp2_with (first | ((with_reducible refine wpList_load_want (op := ⟨some 111, .load 29 (.tmp 11), _, _, _, _⟩) ?wg9 29 (.tmp 11) ?wo9 ⟨W11.heap.size, 0, none⟩ ?wx9 (.agg hc1) l1.out ?_); (case wg9 => rfl); (case wo9 => rfl); (case wx9 => rfl)) | ((with_reducible refine wpList_load_want (op := ⟨some 117, .load 25 (.tmp 116), _, _, _, _⟩) ?wg10 25 (.tmp 116) ?wo10 ⟨W1.heap.size, 18, none⟩ ?wx10 (.agg Da) l2.out ?_); (case wg10 => rfl); (case wo10 => rfl); (case wx10 => rfl)))
        refine (CD.out W12 _ Z R12.out BB.out (by rw [FF.out]; exact HF0.out)).mono ?_; rintro e W13 ⟨rfl, hy⟩
        have K13 := Lib.hid (K12.out.trans (hy.mono K12.out.size))
        clear hy K12
        go_wp2_with fail
        refine (awake_any _).mono ?_; rintro e W14 ⟨rfl, hy⟩
        have K14 := Lib.hid (K13.out.trans (hy.mono K13.out.size))
        go_wp2
        go_ret
        exact ⟨rfl, K14.out⟩
      · have O9 := Lib.hid ho
        clear ho
        have c10 : wc.cell? ⟨gb, 10, none⟩ = some (.int .u8 (x : Int)) := (own_cells O9.out 10 (by omega)).1
        have f10 : wc.frozen? ⟨gb, 10, none⟩ = false := (own_cells O9.out 10 (by omega)).2
        have c11 : wc.cell? ⟨gb, 11, none⟩ = some (.int .u8 (y : Int)) := (own_cells O9.out 11 (by omega)).1
        have f11 : wc.frozen? ⟨gb, 11, none⟩ = false := (own_cells O9.out 11 (by omega)).2
        have p0 := own_put O9.out 10 0
        have p1 := own_put p0.1 11 0
        have h0 := K9.out.grown p0.2 K9.out.size (fun k e => by cases e; exact hgw)
        have h1 := h0.grown p1.2 h0.size (fun k e => by cases e; exact hgw)
        have a0 := (p0.2.block _ A9.out.lt (by simp; omega)).trans A9.out
        have a1 := (p1.2.block _ (Nat.lt_of_lt_of_le A9.out.lt (grown_le p0.2)) (by simp; omega)).trans a0
        have K10 := Lib.hid (show Below w.heap.size w ((wc.setCell ⟨gb, 10, none⟩ (.int .u8 0)).setCell ⟨gb, 11, none⟩ (.int .u8 0)) from h1)
        have A10 := Lib.hid (show Blk ((wc.setCell ⟨gb, 10, none⟩ (.int .u8 0)).setCell ⟨gb, 11, none⟩ (.int .u8 0)) W1.heap.size 42 kc from a1)
        have O10 := Lib.hid (show World.ownsRow ((wc.setCell ⟨gb, 10, none⟩ (.int .u8 0)).setCell ⟨gb, 11, none⟩ (.int .u8 0)) W3.heap.size 5 1 (.slice (some ⟨gb, 0, none⟩) 28 cb) 28 (nus .u8 (rb 69 28 64 1 0 0 s1 s2 s3)) from p1.1)
        clear p0 p1 h0 h1 a0 a1 K9 A9 O9
        go_wp2_with fail
        generalize ((wc.setCell ⟨gb, 10, none⟩ (.int .u8 0)).setCell ⟨gb, 11, none⟩ (.int .u8 0)) = wd at K10 A10 O10 ⊢
        clear c10 f10 c11 f11
        refine (rcheck_any _ ((rb 69 28 64 1 0 0 s1 s2 s3).take 20) _ ((Rd.own O10.out).front 20 (by rw [rb_len]; omega)) (by rw [List.length_take, rb_len]; omega) (fun c hc => (rb_lt 69 28 64 1 0 0 s1 s2 s3 (by omega) (by omega) (by omega) (by omega) (by omega) (by omega) b1 b2 b3) c (List.mem_of_mem_take hc))).mono ?_
        rintro e w13 ⟨rfl, rfl⟩
        obtain ⟨c, hc⟩ : ∃ c, c = ck ((rb 69 28 64 1 0 0 s1 s2 s3).take 20) := ⟨_, rfl⟩
        have hcl : c < 65536 := by have := ck_le ((rb 69 28 64 1 0 0 s1 s2 s3).take 20); omega
        have hff := rq8 s1 s2 s3 c hc
        rw [← hc]
        clear hc
        obtain ⟨d1, hd1⟩ : ∃ d, d = c / 256 := ⟨_, rfl⟩
        obtain ⟨d2, hd2⟩ : ∃ d, d = c % 256 := ⟨_, rfl⟩
        rw [← hd1, ← hd2] at hff
        have e1 : IntKind.u8.wrap ((c : Int) / 256) = (d1 : Int) := by rw [IntKind.wrap_u8]; omega
        have e2 : IntKind.u8.wrap (c : Int) = (d2 : Int) := by rw [IntKind.wrap_u8]; omega
        have hd1l : d1 < 256 := by omega
        have hd2l : d2 < 256 := by omega
        clear hd1 hd2
        have c10 : wd.cell? ⟨gb, 10, none⟩ = some (.int .u8 0) := (own_cells O10.out 10 (by omega)).1
        have f10 : wd.frozen? ⟨gb, 10, none⟩ = false := (own_cells O10.out 10 (by omega)).2
        have c11 : wd.cell? ⟨gb, 11, none⟩ = some (.int .u8 0) := (own_cells O10.out 11 (by omega)).1
        have f11 : wd.frozen? ⟨gb, 11, none⟩ = false := (own_cells O10.out 11 (by omega)).2
        have p0 := own_put O10.out 10 d1
        have p1 := own_put p0.1 11 d2
        have h0 := K10.out.grown p0.2 K10.out.size (fun k e => by cases e; exact hgw)
        have h1 := h0.grown p1.2 h0.size (fun k e => by cases e; exact hgw)
        have a0 := (p0.2.block _ A10.out.lt (by simp; omega)).trans A10.out
        have a1 := (p1.2.block _ (Nat.lt_of_lt_of_le A10.out.lt (grown_le p0.2)) (by simp; omega)).trans a0
        have K9 := Lib.hid (show Below w.heap.size w ((wd.setCell ⟨gb, 10, none⟩ (.int .u8 (d1 : Int))).setCell ⟨gb, 11, none⟩ (.int .u8 (d2 : Int))) from h1)
        have A9 := Lib.hid (show Blk ((wd.setCell ⟨gb, 10, none⟩ (.int .u8 (d1 : Int))).setCell ⟨gb, 11, none⟩ (.int .u8 (d2 : Int))) W1.heap.size 42 kc from a1)
        have R9 := Lib.hid (Rd.own (show World.ownsRow ((wd.setCell ⟨gb, 10, none⟩ (.int .u8 (d1 : Int))).setCell ⟨gb, 11, none⟩ (.int .u8 (d2 : Int))) W3.heap.size 5 1 (.slice (some ⟨gb, 0, none⟩) 28 cb) 28 (nus .u8 (((rb 69 28 64 1 0 0 s1 s2 s3).set 10 d1).set 11 d2)) from p1.1))
        obtain ⟨Z, hZ⟩ : ∃ Z, Z = (((rb 69 28 64 1 0 0 s1 s2 s3).set 10 d1).set 11 d2) := ⟨_, rfl⟩
        have BB : Hid (∀ c ∈ Z, c < 256) := by
          show ∀ c ∈ Z, c < 256
          rw [hZ]
          exact rb_lt 69 28 64 1 d1 d2 s1 s2 s3 (by omega) (by omega) (by omega) (by omega) (by omega) (by omega) b1 b2 b3
        rw [← hZ] at R9 hff
        have FF := Lib.hid hff
        have HF0 : Hid ((6 : Nat) ≠ 0) := show (6 : Nat) ≠ 0 by omega
        clear p0 p1 h0 h1 a0 a1 K10 A10 O10 hZ hff
        go_wp2_with fail
        generalize ((wd.setCell ⟨gb, 10, none⟩ (.int .u8 (d1 : Int))).setCell ⟨gb, 11, none⟩ (.int .u8 (d2 : Int))) = we at K9 A9 R9 ⊢
        clear c10 f10 c11 f11 e1 e2
        refine (read_any _ Z _ R9.out BB.out).mono ?_; rintro e W11 ⟨rfl, hy⟩
        have K11 := Lib.hid (K9.out.trans (hy.mono K9.out.size))
        have A11 := Lib.hid (A9.out.below hy A9.out.lt)
        have R11 := Lib.hid (R9.out.below hy)
        clear hy K9 A9 R9
        rw [FF.out]
        rw [show hd Z = h0 from by unfold hd; rw [if_neg (by rw [FF.out]; exact HF0.out)]]
        have zc := h0_size
        have Ac := Lib.hid h0_all
        have hz0 := h0_eq
        generalize h0 = hc1 at *
        have Zc := Lib.hid (i29.trans (congrArg some zc.symm))
        have Yc : Hid (hc1.size = Array.size (#[Value.int .i64 0, .int .i64 0, .int .u8 0, .bool false, .int .u8 0, .int .u8 0, .int .u8 0, .int .u8 0, .int .u8 0, .int .u8 0, .int .u8 0, .int .u8 0, .int .u8 0, .int .u8 0, .int .u8 0, .int .u8 0, .int .u8 0, .int .u8 0, .int .u8 0, .int .u8 0, .bool false, .int .u8 0, .int .u8 0, .int .u8 0, .int .u8 0, .int .u8 0, .int .u8 0, .int .u8 0, .int .u8 0, .int .u8 0, .int .u8 0, .int .u8 0, .int .u8 0, .int .u8 0, .int .u8 0, .int .u8 0, .int .u8 0] : Array Value)) := zc
        have QZ0 := Lib.hid hz0
        clear zc hz0
        go_wp2_with (((with_reducible refine wpList_blk_store (op := ⟨none, .store 29 (.tmp 11) (.tmp 102), _, _, _, _⟩) ?sg8 29 (.tmp 11) (.tmp 102) ?so8 (W11.heap.size) hc1 ?sx8 ?sy8 (Blk.new W11 29 #[Value.int .i64 0, .int .i64 0, .int .u8 0, .bool false, .int .u8 0, .int .u8 0, .int .u8 0, .int .u8 0, .int .u8 0, .int .u8 0, .int .u8 0, .int .u8 0, .int .u8 0, .int .u8 0, .int .u8 0, .int .u8 0, .int .u8 0, .int .u8 0, .int .u8 0, .int .u8 0, .bool false, .int .u8 0, .int .u8 0, .int .u8 0, .int .u8 0, .int .u8 0, .int .u8 0, .int .u8 0, .int .u8 0, .int .u8 0, .int .u8 0, .int .u8 0, .int .u8 0, .int .u8 0, .int .u8 0, .int .u8 0, .int .u8 0]) Yc.out Zc.out Ac.out ?_); (case sg8 => rfl); (case so8 => rfl); (case sx8 => rfl); (case sy8 => rfl)))
        intro W12 hA hF hB
        have b7 := ((Below.refl W11.heap.size W11).alloc (Nat.le_refl _) (.cells #[Value.int .i64 0, .int .i64 0, .int .u8 0, .bool false, .int .u8 0, .int .u8 0, .int .u8 0, .int .u8 0, .int .u8 0, .int .u8 0, .int .u8 0, .int .u8 0, .int .u8 0, .int .u8 0, .int .u8 0, .int .u8 0, .int .u8 0, .int .u8 0, .int .u8 0, .int .u8 0, .bool false, .int .u8 0, .int .u8 0, .int .u8 0, .int .u8 0, .int .u8 0, .int .u8 0, .int .u8 0, .int .u8 0, .int .u8 0, .int .u8 0, .int .u8 0, .int .u8 0, .int .u8 0, .int .u8 0, .int .u8 0, .int .u8 0] 29)).trans (hB _ (Nat.le_refl _))
        have K12 := Lib.hid (K11.out.trans (b7.mono K11.out.size))
        have A12 := Lib.hid (A11.out.below b7 A11.out.lt)
        have R12 := Lib.hid (R11.out.below b7)
        have H12 := Lib.hid hA
        clear hA hF hB b7 K11 A11 R11
        have l1 := Lib.hid (run_blk_load (P := Try.prog) 29 W11.heap.size _ H12.out Try.underlying29 rfl Zc.out)
        have l2 := Lib.hid (run_part_load (P := Try.prog) 25 18 Da.toList _ A12.out kp2.out Try.underlying25 rfl ID.out)
        rw [Array.toArray_toList] at l2
        have QH : ∀ W, (Op.equalIn 10000 29 (.agg hc1) (.agg #[Value.int .i64 0, .int .i64 0, .int .u8 0, .bool false, .int .u8 0, .int .u8 0, .int .u8 0, .int .u8 0, .int .u8 0, .int .u8 0, .int .u8 0, .int .u8 0, .int .u8 0, .int .u8 0, .int .u8 0, .int .u8 0, .int .u8 0, .int .u8 0, .int .u8 0, .int .u8 0, .bool false, .int .u8 0, .int .u8 0, .int .u8 0, .int .u8 0, .int .u8 0, .int .u8 0, .int .u8 0, .int .u8 0, .int .u8 0, .int .u8 0, .int .u8 0, .int .u8 0, .int .u8 0, .int .u8 0, .int .u8 0, .int .u8 0])).run Try.prog W = .ok true W := fun W => by rw [QZ0.out]; exact eq_head0 W
        go_wp2_with (first | ((with_reducible refine wpList_load_want (op := ⟨some 111, .load 29 (.tmp 11), _, _, _, _⟩) ?wg9 29 (.tmp 11) ?wo9 ⟨W11.heap.size, 0, none⟩ ?wx9 (.agg hc1) l1.out ?_); (case wg9 => rfl); (case wo9 => rfl); (case wx9 => rfl)) | ((with_reducible refine wpList_load_want (op := ⟨some 117, .load 25 (.tmp 116), _, _, _, _⟩) ?wg10 25 (.tmp 116) ?wo10 ⟨W1.heap.size, 18, none⟩ ?wx10 (.agg Da) l2.out ?_); (case wg10 => rfl); (case wo10 => rfl); (case wx10 => rfl)))
        refine (CD.out W12 _ Z R12.out BB.out (by rw [FF.out]; exact HF0.out)).mono ?_; rintro e W13 ⟨rfl, hy⟩
        have K13 := Lib.hid (K12.out.trans (hy.mono K12.out.size))
        clear hy K12
        go_wp2_with fail
        refine (awake_any _).mono ?_; rintro e W14 ⟨rfl, hy⟩
        have K14 := Lib.hid (K13.out.trans (hy.mono K13.out.size))
        go_wp2
        go_ret
        exact ⟨rfl, K14.out⟩
end Go.Proofs.Ythjaolngfjfldaa

