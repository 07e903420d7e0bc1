/- Texts that the walks of this seat lean on, put together. -/
import Derived.Deep.CutBlock
import Derived.Deep.DeepCutAuto
import Derived.LoopTactic
import Derived.Handy
import Derived.Test.YtblkpnjmmdbgnaaTk
import Derived.Test.YtblkpnjmmdbgnaaM28
import Derived.Test.YtblkpnjmmdbgnaaM33
import Derived.Test.YtblkpnjmmdbgnaaM36
namespace Go.Proofs.Ytblkpnjmmdbgnaa
open Go.RowKit Go.Lib
theorem hsh_sd (c d : Cf) (h : c.sd = d.sd) (n : Nat) (k : Fl) : hsh c n k = hsh d n k := by unfold hsh; rw [h]
theorem plN_same (c d : Cf) (h : c.sd = d.sd) (hz : c.sz = d.sz) (k : Fl) (s : Nat) : plN c k s = plN d k s := by unfold plN; rw [hsh_sd c d h, hz]
theorem btL_same (c d : Cf) (h : c.sd = d.sd) (hb : c.bl = d.bl) (k : Fl) (n : Nat) : btL c k n = btL d k n := by
  unfold btL
  rw [hb]
  exact List.map_congr_left (fun i _ => by rw [hsh_sd c d h])
theorem slN_same (c d : Cf) (h : c.sd = d.sd) (k : Fl) (n : Int) : slN c k n = slN d k n := by unfold slN; rw [hsh_sd c d h]
theorem dgN_low (c d : Cf) (h : c.sd = d.sd) (hc : c.dg = 8) (hd : d.dg = 8 ∨ d.dg = 16) (k : Fl) : dgN c k = dgN d k % 256 := by
  unfold dgN
  cases vK k with
  | false => rfl
  | true =>
    rw [if_pos rfl, if_pos rfl, hsh_sd c d h, hc, show (8 : Int).toNat = 8 from rfl, show (2 : Nat) ^ 8 = 256 from rfl]
    rcases hd with hd | hd
    · rw [hd, show (8 : Int).toNat = 8 from rfl, show (2 : Nat) ^ 8 = 256 from rfl, Nat.mod_mod]
    · rw [hd, show (16 : Int).toNat = 16 from rfl, show (2 : Nat) ^ 16 = 65536 from rfl, Nat.mod_mod_of_dvd _ (by decide)]
theorem dgN_lt (c : Cf) (k : Fl) (h : okC c = true) : dgN c k < 65536 := by
  have hb := okC_dg h
  obtain ⟨p1, p2⟩ := pow16 c.dg.toNat (by omega)
  unfold dgN
  split
  · exact Nat.lt_of_lt_of_le (Nat.mod_lt _ p1) p2
  · decide
structure Kin (c d : Cf) : Prop where
  c1 : c.Fit
  d1 : d.Fit
  c2 : okC c = true
  d2 : okC d = true
  sd : c.sd = d.sd
  sz : c.sz = d.sz
  bl : c.bl = d.bl
  hs : c.hs = d.hs
  cs : c.st = 2
  ds : 2 ≤ d.st
  cd : c.dg = 8
  dd : d.dg = 8 ∨ d.dg = 16
def al0 (zs : List Int) : Cf := { cfg zs with st := 2 }
def al1 (zs : List Int) : Cf := { al0 zs with dg := 8 }
theorem al0_fit (zs : List Int) : (al0 zs).Fit := fit_st _ (cfg_fit zs) 2
theorem al0_ok (zs : List Int) : okC (al0 zs) = true := by unfold al0; rw [ok_st _ (cfg_ok zs)]; rfl
theorem al1_fit (zs : List Int) : (al1 zs).Fit := fit_dg _ (al0_fit zs) 8
theorem al1_ok (zs : List Int) : okC (al1 zs) = true := by unfold al1; rw [ok_dg _ (al0_ok zs)]; rfl
def one16 : List Nat := [1, 0, 0, 0, 0, 0, 0, 0, 0, 0, 0, 0, 0, 0, 0, 0]
def al2 (zs : List Int) : Nat → Cf
  | 0 => { al1 zs with st := 4 }
  | 1 => { al1 zs with dg := 16 }
  | 2 => { { { al1 zs with qu := 7 } with ev := 7 } with id := 7 }
  | 3 => { al1 zs with en := true, xv := true, X := one16 }
  | _ => { { { al1 zs with sl := 9 } with vs := 9 } with fa := 9 }
theorem one16_lt : ∀ n ∈ one16, n < 256 := by decide
theorem al_kin (zs : List Int) (i : Nat) (h : i < 5) : Kin (al1 zs) (al2 zs i) := by
  have h5 : i = 0 ∨ i = 1 ∨ i = 2 ∨ i = 3 ∨ i = 4 := by omega
  have f1 := al1_fit zs
  have o1 := al1_ok zs
  rcases h5 with rfl | rfl | rfl | rfl | rfl
  · exact ⟨f1, fit_st _ f1 4, o1, (ok_st _ o1 4).trans rfl, rfl, rfl, rfl, rfl, rfl, by show (2 : Int) ≤ 4; decide, rfl, .inl rfl⟩
  · exact ⟨f1, fit_dg _ f1 16, o1, (ok_dg _ o1 16).trans rfl, rfl, rfl, rfl, rfl, rfl, Int.le_refl _, rfl, .inr rfl⟩
  · have o2 := (ok_qu _ o1 7).trans (show wi 7 1 256 = true from rfl)
    have o3 := (ok_ev _ o2 7).trans (show wi 7 1 64 = true from rfl)
    exact ⟨f1, fit_id _ (fit_ev _ (fit_qu _ f1 7) 7) 7, o1, (ok_id _ o3 7).trans rfl, rfl, rfl, rfl, rfl, rfl, Int.le_refl _, rfl, .inl rfl⟩
  · refine ⟨f1, ⟨f1.1, rfl, f1.3, one16_lt, f1.5⟩, o1, ?_, rfl, rfl, rfl, rfl, rfl, Int.le_refl _, rfl, .inl rfl⟩
    have o2 := o1
    unfold okC at o2 ⊢
    simp only [Bool.and_eq_true] at o2 ⊢
    obtain ⟨h0, h1, h2, h3, h4, h5, h6, h7, h8, h9, h10, h11, h12⟩ := o2
    exact ⟨h0, h1, h2, h3, h4, h5, h6, h7, h8, h9, h10, h11, rfl⟩
  · have o2 := (ok_sl _ o1 9).trans (show wi 9 1 64 = true from rfl)
    have o3 := (ok_vs _ o2 9).trans (show wi 9 2 16 = true from rfl)
    exact ⟨f1, fit_fa _ (fit_vs _ (fit_sl _ f1 9) 9) 9, o1, (ok_fa _ o3 9).trans rfl, rfl, rfl, rfl, rfl, rfl, Int.le_refl _, rfl, .inl rfl⟩
theorem set_en (c : Cf) (h : c.Fit) (v : Bool) : c.cs.setIfInBounds 12 (.bool v) = Cf.cs { c with en := v } := by
  obtain ⟨b0, b1, b2, b3, b4, b5, b6, b7, b8, b9, b10, b11, b12, b13, b14, b15, e⟩ := list16 c.O h.lO
  obtain ⟨d0, d1, d2, d3, d4, d5, d6, d7, d8, d9, d10, d11, d12, d13, d14, d15, e2⟩ := list16 c.X h.lX
  unfold Cf.cs ccells
  simp only
  rw [e, e2]
  kernel_rfl
theorem set_own6 (c : Cf) (h : c.Fit) : setL c.cs 30 (cellsA true one16).toList = Cf.cs { c with xv := true, X := one16 } := by
  obtain ⟨b0, b1, b2, b3, b4, b5, b6, b7, b8, b9, b10, b11, b12, b13, b14, b15, e⟩ := list16 c.O h.lO
  obtain ⟨d0, d1, d2, d3, d4, d5, d6, d7, d8, d9, d10, d11, d12, d13, d14, d15, e2⟩ := list16 c.X h.lX
  unfold Cf.cs ccells
  simp only
  rw [e, e2]
  kernel_rfl
theorem built_16 : Try.prog.built 22 [(0, .int .u8 1)] = some (nus .u8 one16).toArray := by kernel_rfl
theorem built_own1 : Try.prog.built 24 [(0, .bool true), (1, .agg (nus .u8 one16).toArray)] = some (cellsA true one16) := by kernel_rfl
end Go.Proofs.Ytblkpnjmmdbgnaa
