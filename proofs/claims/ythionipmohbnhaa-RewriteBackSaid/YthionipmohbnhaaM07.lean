/- Texts that the walks of this seat lean on, put together. -/
import Derived.Lib.QuietBelow
import Derived.Test.YthionipmohbnhaaTk
import Derived.Test.YthionipmohbnhaaM01
import Derived.Test.YthionipmohbnhaaM02
import Derived.Test.YthionipmohbnhaaM06
namespace Go.Proofs.Ythionipmohbnhaa
open Go.RowKit
def lA (six : Bool) (T : List Nat) : List Nat := if six then (T.drop 8).take 16 else (T.drop 12).take 4 ++ List.replicate (16 - ((T.drop 12).take 4).length) 0
def lB (six : Bool) (T : List Nat) : List Nat := if six then (T.drop 24).take 16 else (T.drop 16).take 4 ++ List.replicate (16 - ((T.drop 16).take 4).length) 0
theorem lA_eq (six : Bool) (T : List Nat) : Value.agg (fA six T) = adr six (lA six T) := by cases six <;> rfl
theorem lB_eq (six : Bool) (T : List Nat) : Value.agg (fB six T) = adr six (lB six T) := by cases six <;> rfl
theorem len_room (six : Bool) (T : List Nat) (h : fhr six T = 0) : (if six then 40 else 20) ≤ T.length := by
  cases six with
  | true => exact (f6_yes T h).1
  | false => exact (ff_yes T h).1
theorem lA_len (six : Bool) (T : List Nat) (h : fhr six T = 0) : (lA six T).length = 16 := by
  have := len_room six T h
  cases six with
  | true => simp [lA] at this ⊢; omega
  | false => simp [lA] at this ⊢; omega
theorem lB_len (six : Bool) (T : List Nat) (h : fhr six T = 0) : (lB six T).length = 16 := by
  have := len_room six T h
  cases six with
  | true => simp [lB] at this ⊢; omega
  | false => simp [lB] at this ⊢; omega
theorem lA_lt (six : Bool) (T : List Nat) (h : ∀ c ∈ T, c < 256) : ∀ c ∈ lA six T, c < 256 := by
  intro c hc
  unfold lA at hc
  split at hc
  · exact h c (List.mem_of_mem_drop (List.mem_of_mem_take hc))
  · rcases List.mem_append.1 hc with hc | hc
    · exact h c (List.mem_of_mem_drop (List.mem_of_mem_take hc))
    · rw [List.eq_of_mem_replicate hc]; omega
theorem lB_lt (six : Bool) (T : List Nat) (h : ∀ c ∈ T, c < 256) : ∀ c ∈ lB six T, c < 256 := by
  intro c hc
  unfold lB at hc
  split at hc
  · exact h c (List.mem_of_mem_drop (List.mem_of_mem_take hc))
  · rcases List.mem_append.1 hc with hc | hc
    · exact h c (List.mem_of_mem_drop (List.mem_of_mem_take hc))
    · rw [List.eq_of_mem_replicate hc]; omega
def gf (zs : List Nat) : Bool := decide (rr zs = 0) && gd (fP (sixF zs) (pkt zs)) (sgm zs) (sixF zs) (lA (sixF zs) (pkt zs)) (sixF zs) (lB (sixF zs) (pkt zs))
end Go.Proofs.Ythionipmohbnhaa
namespace Go.Proofs.Ythionipmohbnhaa
open Go.RowKit
def ly0 (zs : List Nat) : List (Nat × Nat) := (0, 0) :: if u2 zs 12 = 33024 then [(1, 14)] else []
def lys (zs : List Nat) : List (Nat × Nat) :=
  if (net zs).2.2 = 1 then []
  else if (net zs).2.2 ≠ 0 then ly0 zs
  else if fhr (sixF zs) (pkt zs) ≠ 0 then ly0 zs
  else if fs (fP (sixF zs) (pkt zs)) (sgm zs) ≠ 0 then ly0 zs ++ [(if sixF zs then 3 else 2, (net zs).1)]
  else ly0 zs ++ [(if sixF zs then 3 else 2, (net zs).1)] ++ [(if fP (sixF zs) (pkt zs) = 17 then 5 else 4, (net zs).1 + fS (sixF zs) (pkt zs))]
end Go.Proofs.Ythionipmohbnhaa
namespace Go.Proofs.Ythionipmohbnhaa
open Go.RowKit
theorem getDa (Z R : List Nat) (i : Nat) (h : i < Z.length) : (Z ++ R).getD i 0 = Z.getD i 0 := by
  rw [List.getD_eq_getElem?_getD, List.getElem?_append_left h, ← List.getD_eq_getElem?_getD]
theorem u2_app' (Z R : List Nat) (i : Nat) (h : i + 2 ≤ Z.length) : u2 (Z ++ R) i = u2 Z i := by
  unfold u2; rw [getDa _ _ _ (by omega), getDa _ _ _ (by omega)]
theorem ff_more (Z R : List Nat) (h : ff Z = 0) : ff (Z ++ R) = 0 ∧ hs (Z ++ R) = hs Z := by
  obtain ⟨h20, h4, hs20, hsl, hl, hck, hfr, hp⟩ := ff_yes Z h
  have e : hs (Z ++ R) = hs Z := by unfold hs; rw [getDa _ _ _ (by omega)]
  refine ⟨?_, e⟩
  unfold ff
  rw [e, u2_app' _ _ 2 (by omega), u2_app' _ _ 6 (by omega), getDa _ _ 0 (by omega), getDa _ _ 9 (by omega), List.take_append_of_le_length (by omega)]
  have hlen : (Z ++ R).length = Z.length + R.length := by simp
  rw [if_neg (by omega), if_neg (by omega), if_neg (by omega), if_neg (by omega), if_neg (by omega), if_neg (by omega)]
theorem hd_key (v : Bool) (S D : List Nat) (p : Nat) (SG R : List Nat) (n : Nat) (hp : p = 6 ∨ p = 17) (hS : S.length = 16) (hD : D.length = 16) (hvS : vldA v S = true) (hvD : vldA v D = true) (hn : SG.length = n) (hn2 : n ≤ 60000) :
    fhr v (headB v S D p n ++ (SG ++ R)) = 0 ∧ fS v (headB v S D p n ++ (SG ++ R)) = (if v then 40 else 20) ∧ fL v (headB v S D p n ++ (SG ++ R)) = (if v then 40 else 20) + n ∧
      fP v (headB v S D p n ++ (SG ++ R)) = p ∧ fA v (headB v S D p n ++ (SG ++ R)) = cellsA v S ∧ fB v (headB v S D p n ++ (SG ++ R)) = cellsA v D := by
  have hl : n ≤ (SG ++ R).length := by rw [List.length_append]; omega
  cases v with
  | true =>
    have hf := mk6_f S D (SG ++ R) p n hS hD (by omega) hp hl
    refine ⟨hf, rfl, ?_, ?_, ?_, ?_⟩
    · show 40 + u2 (mk6 S D p n ++ (SG ++ R)) 4 = _
      rw [mk6_u2 S D _ p _ (by omega)]; rfl
    · show (mk6 S D p n ++ (SG ++ R)).getD 6 0 = p
      rw [mk6_cons]; rfl
    · show srcA _ = _
      unfold srcA; rw [show headB true S D p n = mk6 S D p n from rfl, mk6_src S D _ p _ hS]
    · show dstA _ = _
      unfold dstA; rw [show headB true S D p n = mk6 S D p n from rfl, mk6_dst S D _ p _ hS hD]
  | false =>
    obtain ⟨q1, q2, q3, q4, q5, q6, q7, q8⟩ := mk_read (S.take 4) (D.take 4) SG p n (by simp [hS]) (by simp [hD]) hn (by omega) hp
    rw [← List.append_assoc]
    rw [show headB false S D p n = mk4 (S.take 4) (D.take 4) p n from rfl]
    obtain ⟨m1, m2⟩ := ff_more _ R q1
    refine ⟨m1, m2.trans q4, ?_, ?_, ?_, ?_⟩
    · show u2 (mk4 (S.take 4) (D.take 4) p n ++ SG ++ R) 2 = _
      rw [u2_app' _ _ 2 (by omega), q5]; rfl
    · show (mk4 (S.take 4) (D.take 4) p n ++ SG ++ R).getD 9 0 = p
      rw [getDa _ _ 9 (by omega), q6]
    · show a4 _ = _
      rw [List.drop_append_of_le_length (by omega), List.take_append_of_le_length (by rw [List.length_drop]; omega), q7]; exact a4_take S hS hvS
    · show a4 _ = _
      rw [List.drop_append_of_le_length (by omega), List.take_append_of_le_length (by rw [List.length_drop]; omega), q3]; exact a4_take D hD hvD
def frR (v : Bool) (S D : List Nat) (p sp dp f : Nat) (data : List Nat) (tag bare : Bool) (R : List Nat) : List Nat :=
  ethB tag v ++ (headB v S D p (hsz p + data.length) ++ (segB p v S D sp dp f data bare ++ R))
theorem frmB_R (v : Bool) (S D : List Nat) (p sp dp f : Nat) (data : List Nat) (tag bare : Bool) (pad : Nat) : frmB v S D p sp dp f data tag bare pad = frR v S D p sp dp f data tag bare (List.replicate pad 0) := by
  unfold frmB frR; simp
def hN (tag : Bool) : Nat := if tag then 18 else 14
def hH (v : Bool) : Nat := if v then 40 else 20
theorem ethB_len (tag v : Bool) : (ethB tag v).length = hN tag := by cases tag <;> cases v <;> rfl
theorem eth_net (tag v : Bool) (X : List Nat) : net (ethB tag v ++ X) = (hN tag, (if v then 34525 else 2048), 0) := by
  have hl : ¬ (ethB tag v ++ X).length < hN tag := by rw [List.length_append, ethB_len]; omega
  cases tag with
  | true =>
    have hl : ¬ (ethB true v ++ X).length < 18 := hl
    have h12 : u2 (ethB true v ++ X) 12 = 33024 := by unfold u2 ethB; cases v <;> simp
    have h16 : u2 (ethB true v ++ X) 16 = if v then 34525 else 2048 := by unfold u2 ethB; cases v <;> simp
    rw [net_tag _ (by omega) h12 hl, h16]
    cases v <;> rfl
  | false =>
    have hl : ¬ (ethB false v ++ X).length < 14 := hl
    have h12 : u2 (ethB false v ++ X) 12 = if v then 34525 else 2048 := by unfold u2 ethB; cases v <;> simp
    rw [net_bare _ hl (by rw [h12]; cases v <;> decide), h12]
    cases v <;> rfl
theorem eth_six (tag v : Bool) (X : List Nat) : sixF (ethB tag v ++ X) = v := by unfold sixF; rw [eth_net]; cases v <;> rfl
theorem eth_pkt (tag v : Bool) (X : List Nat) : pkt (ethB tag v ++ X) = X := by unfold pkt; rw [eth_net]; exact drop_app _ _ _ (ethB_len tag v)
def lyE (tag : Bool) : List (Nat × Nat) := if tag then [(0, 0), (1, 14)] else [(0, 0)]
theorem eth_ly (tag v : Bool) (X : List Nat) : ly0 (ethB tag v ++ X) = lyE tag := by
  have h12 : u2 (ethB tag v ++ X) 12 = if tag then 33024 else if v then 34525 else 2048 := by unfold u2 ethB; cases tag <;> cases v <;> simp
  unfold ly0; rw [h12]
  cases tag <;> cases v <;> rfl
structure Told8 (v : Bool) (S D : List Nat) (p sp dp f : Nat) (data : List Nat) (tag bare : Bool) (R F : List Nat) : Prop where
  len : F.length = hN tag + hH v + (hsz p + data.length) + R.length
  sg : sgm F = segB p v S D sp dp f data bare
  rr : rr F = 0
  vw : vw F = vcells v (hN tag) (hN tag + hH v) (hN tag + hH v + (hsz p + data.length)) (kcells p (cellsA v S) (cellsA v D) sp dp) (if p = 6 then f else 0)
  gf : gf F = true
  ly : lys F = lyE tag ++ [(if v then 3 else 2, hN tag)] ++ [(if p = 17 then 5 else 4, hN tag + hH v)]
theorem lA_of (v : Bool) (T S : List Nat) (h : fA v T = cellsA v S) (hS : S.length = 16) (h2 : fhr v T = 0) : lA v T = S := by
  have e : cellsA v (lA v T) = cellsA v S := by
    have := lA_eq v T
    rw [h] at this
    exact (Value.agg.inj this).symm
  have l1 := lA_len v T h2
  refine ext_getD _ _ 0 (by rw [l1, hS]) fun i hi => ?_
  rw [l1] at hi
  have c1 : (cellsA v (lA v T))[i + 1]? = some (.int .u8 (((lA v T).getD i 0 : Nat) : Int)) := by
    simp [cellsA, List.getD_eq_getElem?_getD, l1, hi]
  have c2 : (cellsA v S)[i + 1]? = some (.int .u8 ((S.getD i 0 : Nat) : Int)) := by
    simp [cellsA, List.getD_eq_getElem?_getD, hS, hi]
  rw [e, c2] at c1
  simp only [Option.some.injEq, Value.int.injEq, true_and] at c1
  omega
theorem lB_of (v : Bool) (T S : List Nat) (h : fB v T = cellsA v S) (hS : S.length = 16) (h2 : fhr v T = 0) : lB v T = S := by
  have e : cellsA v (lB v T) = cellsA v S := by
    have := lB_eq v T
    rw [h] at this
    exact (Value.agg.inj this).symm
  have l1 := lB_len v T h2
  refine ext_getD _ _ 0 (by rw [l1, hS]) fun i hi => ?_
  rw [l1] at hi
  have c1 : (cellsA v (lB v T))[i + 1]? = some (.int .u8 (((lB v T).getD i 0 : Nat) : Int)) := by
    simp [cellsA, List.getD_eq_getElem?_getD, l1, hi]
  have c2 : (cellsA v S)[i + 1]? = some (.int .u8 ((S.getD i 0 : Nat) : Int)) := by
    simp [cellsA, List.getD_eq_getElem?_getD, hS, hi]
  rw [e, c2] at c1
  simp only [Option.some.injEq, Value.int.injEq, true_and] at c1
  omega
theorem told8 (v : Bool) (S D : List Nat) (p sp dp f : Nat) (data : List Nat) (tag bare : Bool) (R : List Nat) (hp : p = 6 ∨ p = 17) (hS : S.length = 16) (hD : D.length = 16) (hvS : vldA v S = true) (hvD : vldA v D = true)
    (hl : data.length ≤ 1500) (hsp : sp < 65536) (hdp : dp < 65536) : Told8 v S D p sp dp f data tag bare R (frR v S D p sp dp f data tag bare R) := by
  have hn := segB_len p hp v S D sp dp f data bare
  have hz : hsz p ≤ 20 := by unfold hsz; split <;> omega
  have h0 := segB_fs p hp v S D sp dp f data bare (by omega)
  have hgd := built_good p hp v S D sp dp f data bare (by omega)
  obtain ⟨hu0, hu2, hfl⟩ := segB_ports p hp v S D sp dp f data bare hsp hdp
  obtain ⟨k1, k2, k3, k4, k5, k6⟩ := hd_key v S D p (segB p v S D sp dp f data bare) R (hsz p + data.length) hp hS hD hvS hvD hn (by omega)
  have hh := headB_len v S D p (hsz p + data.length) hS hD
  unfold frR
  generalize hSG : segB p v S D sp dp f data bare = SG at *
  generalize hX : headB v S D p (hsz p + data.length) ++ (SG ++ R) = X at *
  have hsix := eth_six tag v X
  have hpk := eth_pkt tag v X
  have hnet := eth_net tag v X
  have hdr : (ethB tag v ++ X).drop (hN tag + hH v) = SG ++ R := by
    rw [← hX, ← List.append_assoc]
    exact drop_app _ _ _ (by rw [List.length_append, ethB_len, hh]; rfl)
  have hsg : sgm (ethB tag v ++ X) = SG := by
    unfold sgm
    rw [hsix, hpk, hnet, k2, k3]
    show ((ethB tag v ++ X).drop (hN tag + hH v)).take _ = _
    rw [hdr, Nat.add_sub_cancel_left]
    exact take_app _ _ _ hn
  have hrr : rr (ethB tag v ++ X) = 0 := by
    unfold rr
    rw [hsix, hpk, hnet, k1, k4, hsg, h0]; rfl
  refine ⟨?_, ?_, hrr, ?_, ?_, ?_⟩
  · rw [← hX, List.length_append, List.length_append, List.length_append, ethB_len, hh, hn]; unfold hH; omega
  · rw [hsg, hSG]
  · unfold vw keyF
    rw [if_pos hrr, hsix, hpk, hnet, k2, k3, k4, k5, k6, hsg, hu0, hu2, hfl]
    show vcells v (hN tag) (hN tag + hH v) (hN tag + (hH v + _)) _ _ = _
    rw [Nat.add_assoc]
  · unfold gf
    rw [hsix, hpk, hsg, k4, lA_of v X S k5 hS k1, lB_of v X D k6 hD k1, hrr, hgd]; rfl
  · unfold lys
    rw [hsix, hpk, hnet, k1, k4, hsg, h0, k2, eth_ly]
    rfl
end Go.Proofs.Ythionipmohbnhaa
namespace Go.Proofs.Ythionipmohbnhaa
open Go.RowKit
theorem getDl (A B : List Nat) (i : Nat) (h : i < A.length) : (A ++ B).getD i 0 = A.getD i 0 := getDa A B i h
theorem getDr (A B : List Nat) (i : Nat) (h : A.length ≤ i) : (A ++ B).getD i 0 = B.getD (i - A.length) 0 := by
  rw [List.getD_eq_getElem?_getD, List.getElem?_append_right h, ← List.getD_eq_getElem?_getD]
theorem getD_dr (A : List Nat) (n i : Nat) : (A.drop n).getD i 0 = A.getD (n + i) 0 := by
  rw [List.getD_eq_getElem?_getD, List.getElem?_drop, ← List.getD_eq_getElem?_getD]
theorem same_get (A B : List Nat) (k i : Nat) (h : A.take k = B.take k) (hi : i < k) : A.getD i 0 = B.getD i 0 := by
  rw [← getD_take A k i hi, h, getD_take B k i hi]
theorem same_u2 (A B : List Nat) (k i : Nat) (h : A.take k = B.take k) (hi : i + 2 ≤ k) : u2 A i = u2 B i := by
  unfold u2; rw [same_get A B k i h (by omega), same_get A B k (i + 1) h (by omega)]
theorem same_mid (A B : List Nat) (k j m : Nat) (h : A.take k = B.take k) (hi : j + m ≤ k) : (A.drop j).take m = (B.drop j).take m := by
  have e : ∀ Z : List Nat, (Z.drop j).take m = ((Z.take k).drop j).take m := fun Z => by
    rw [List.drop_take, List.take_take, Nat.min_eq_left (by omega)]
  rw [e A, e B, h]
structure SameHead (v : Bool) (Z Y : List Nat) : Prop where
  r : fhr v Y = 0
  s : fS v Y = fS v Z
  l : fL v Y = fL v Z
  p : fP v Y = fP v Z
  a : lA v Y = lA v Z
  b : lB v Y = lB v Z
theorem same_head (v : Bool) (Z Y : List Nat) (h : fhr v Z = 0) (hl : fL v Z ≤ Y.length) (ht : Y.take (fS v Z) = Z.take (fS v Z)) : SameHead v Z Y := by
  have hH := fhd_yes v Z h
  have h1 := hH.low
  have h2 := hH.mid
  have h3 := hH.high
  cases v with
  | true =>
    have ht : Y.take 40 = Z.take 40 := ht
    have h : f6 Z = 0 := h
    have hl : 40 + u2 Z 4 ≤ Y.length := hl
    obtain ⟨q1, q2, q3, q4⟩ := f6_yes Z h
    have g0 := same_get Y Z 40 0 ht (by omega)
    have g6 := same_get Y Z 40 6 ht (by omega)
    have g4 := same_u2 Y Z 40 4 ht (by omega)
    refine ⟨?_, rfl, ?_, g6, same_mid Y Z 40 8 16 ht (by omega), same_mid Y Z 40 24 16 ht (by omega)⟩
    · show f6 Y = 0
      unfold f6
      rw [g0, g6, g4, if_neg (by omega), if_neg (by omega), if_neg (by omega), if_neg (by omega), if_neg (by omega)]
    · show 40 + u2 Y 4 = 40 + u2 Z 4
      rw [g4]
  | false =>
    have ht : Y.take (hs Z) = Z.take (hs Z) := ht
    have h : ff Z = 0 := h
    have hl : u2 Z 2 ≤ Y.length := hl
    obtain ⟨h20, h4, hs20, hsl, hlz, hck, hfr, hp⟩ := ff_yes Z h
    have g0 := same_get Y Z _ 0 ht (by omega)
    have g9 := same_get Y Z _ 9 ht (by omega)
    have g2 := same_u2 Y Z _ 2 ht (by omega)
    have g6 := same_u2 Y Z _ 6 ht (by omega)
    have e : hs Y = hs Z := by unfold hs; rw [g0]
    have m1 := same_mid Y Z _ 12 4 ht (by omega)
    have m2 := same_mid Y Z _ 16 4 ht (by omega)
    refine ⟨?_, e, g2, g9, ?_, ?_⟩
    · show ff Y = 0
      unfold ff
      rw [e, ht, g0, g2, g6, g9, if_neg (by omega), if_neg (by omega), if_neg (by omega), if_neg (by omega), if_neg (by omega), if_neg (by omega)]
    · show (Y.drop 12).take 4 ++ _ = (Z.drop 12).take 4 ++ _
      rw [m1]
    · show (Y.drop 16).take 4 ++ _ = (Z.drop 16).take 4 ++ _
      rw [m2]
def dsX (v : Bool) (T D : List Nat) : List Nat := if v then dst6 T D else dst4 T (D.take 4)
theorem vld_cut (D : List Nat) (hD : D.length = 16) (h : vldA false D = true) : D.take 4 ++ List.replicate 12 0 = D := by
  have hv := (vldA_spec.1 h).resolve_left (by decide)
  refine ext_getD _ _ 0 (by simp [hD]) fun i hi => ?_
  have hi : i < 16 := by simp [hD] at hi; omega
  have h4 : (D.take 4).length = 4 := by simp [hD]
  by_cases h1 : i < 4
  · rw [getDl _ _ _ (by omega), getD_take _ _ _ h1]
  · rw [getDr _ _ _ (by omega), hv i (by omega) hi, List.getD_eq_getElem?_getD, List.getElem?_replicate]
    split <;> rfl
structure Gone4 (v : Bool) (T D : List Nat) : Prop where
  len : (dsX v T D).length = T.length
  drop : ∀ k, fS v T ≤ k → (dsX v T D).drop k = T.drop k
  head : fhr v (dsX v T D) = 0
  s : fS v (dsX v T D) = fS v T
  l : fL v (dsX v T D) = fL v T
  p : fP v (dsX v T D) = fP v T
  a : lA v (dsX v T D) = lA v T
  b : lB v (dsX v T D) = D
  get : ∀ i, ¬ (v = false ∧ (i = 10 ∨ i = 11 ∨ 16 ≤ i ∧ i < 20)) → ¬ (v = true ∧ 24 ≤ i ∧ i < 40) → (dsX v T D).getD i 0 = T.getD i 0
theorem gone4 (v : Bool) (T D : List Nat) (hb : ∀ c ∈ T, c < 256) (h : fhr v T = 0) (hD : D.length = 16) (hv : vldA v D = true) : Gone4 v T D := by
  cases v with
  | true =>
    have h : f6 T = 0 := h
    obtain ⟨q1, q2, q3, q4⟩ := f6_yes T h
    have hk : 24 + D.length ≤ T.length := by omega
    have hlen : (dst6 T D).length = T.length := ov_length _ _ _ hk
    have hget : ∀ i, ¬ (24 ≤ i ∧ i < 40) → (dst6 T D).getD i 0 = T.getD i 0 := fun i hi => ov_get_off _ _ _ _ hk (by omega)
    have ht : (dst6 T D).take 24 = T.take 24 := ov_take_off _ _ _ _ (Nat.le_refl _) hk
    have g0 := hget 0 (by omega)
    have g6 := hget 6 (by omega)
    have g4 : u2 (dst6 T D) 4 = u2 T 4 := by unfold u2; rw [hget 4 (by omega), hget 5 (by omega)]
    refine ⟨hlen, fun k hk2 => ov_drop_off _ _ _ _ (by have : 40 ≤ k := hk2; omega) hk, ?_, rfl, ?_, g6, ?_, ?_, fun i _ h2 => hget i (fun x => h2 ⟨rfl, x⟩)⟩
    · show f6 (dst6 T D) = 0
      unfold f6
      rw [g0, g6, g4, if_neg (by omega), if_neg (by omega), if_neg (by omega), if_neg (by omega), if_neg (by omega)]
    · show 40 + u2 (dst6 T D) 4 = 40 + u2 T 4
      rw [g4]
    · exact same_mid _ _ 24 8 16 ht (by omega)
    · show ((dst6 T D).drop 24).take 16 = D
      have := ov_mid T D 24 hk
      rwa [hD] at this
  | false =>
    have h : ff T = 0 := h
    have ht : (D.take 4).length = 4 := by simp [hD]
    have g0 := dst_get h ht 0 (by omega)
    have e2 : u2 (dst4 T (D.take 4)) 2 = u2 T 2 := by unfold u2; rw [dst_get h ht 2 (by omega), dst_get h ht 3 (by omega)]
    have es : hs (dst4 T (D.take 4)) = hs T := by unfold hs; rw [g0]
    have h20 := (ff_yes T h).2.2.1
    refine ⟨dst_length h ht, fun k hk => dst_drop h ht k (by have : hs T ≤ k := hk; omega), dst_ff h ht hb, es, e2, dst_get h ht 9 (by omega), ?_, ?_, fun i h1 _ => dst_get h ht i (by
      have h1 : ¬ (i = 10 ∨ i = 11 ∨ 16 ≤ i ∧ i < 20) := fun x => h1 ⟨rfl, x⟩
      omega)⟩
    · show ((dst4 T (D.take 4)).drop 12).take 4 ++ List.replicate (16 - (((dst4 T (D.take 4)).drop 12).take 4).length) 0 = (T.drop 12).take 4 ++ _
      rw [dst_src h ht]
    · show ((dst4 T (D.take 4)).drop 16).take 4 ++ List.replicate (16 - (((dst4 T (D.take 4)).drop 16).take 4).length) 0 = D
      rw [dst_dst h ht, ht]; exact vld_cut D hD hv
theorem dsX_lt (v : Bool) (T D : List Nat) (hb : ∀ c ∈ T, c < 256) (hbD : ∀ c ∈ D, c < 256) : ∀ c ∈ dsX v T D, c < 256 := by
  unfold dsX; split
  · exact ov_lt _ _ _ hb hbD
  · exact dst_lt hb (fun c hc => hbD c (List.mem_of_mem_take hc))
theorem dsX_cut (v : Bool) (T D : List Nat) (L : Nat) (h : fhr v T = 0) (hD : D.length = 16) (hL : fL v T ≤ L) (hL2 : L ≤ T.length) : (dsX v (T.take L) D).take (fS v T) = (dsX v T D).take (fS v T) := by
  have hH := fhd_yes v T h
  have h2 := hH.mid
  have key : dsX v (T.take L) D = (dsX v T D).take L := by
    cases v with
    | true =>
      have q1 : 40 ≤ fL true T := h2
      exact (ov_take T D 24 L (by omega) hL2).symm
    | false =>
      have h : ff T = 0 := h
      have h20 := (ff_yes T h).2.2.1
      have hss : hs T ≤ fL false T := h2
      have ht : (D.take 4).length = 4 := by simp [hD]
      show dst4 (T.take L) (D.take 4) = (dst4 T (D.take 4)).take L
      unfold dst4
      rw [u2_take T L 10 (by omega), List.drop_take, List.take_take, Nat.min_eq_left (by omega)]
      rw [ov_take _ _ _ _ (by omega) (by rw [ov_length _ _ _ (by rw [bg_length]; omega)]; exact hL2), ov_take _ _ _ _ (by rw [bg_length]; omega) hL2]
  rw [key, List.take_take, Nat.min_eq_left (by omega)]
def nN (zs : List Nat) : Nat := (net zs).1
def nS (zs : List Nat) : Nat := (net zs).1 + fS (sixF zs) (pkt zs)
def nE (zs : List Nat) : Nat := (net zs).1 + fL (sixF zs) (pkt zs)
def pt9 (zs : List Nat) (tp : Nat) : Nat := if tp = 0 then u2 (sgm zs) 2 else tp
def sg9 (zs D : List Nat) (tp : Nat) : List Nat := prt (fP (sixF zs) (pkt zs)) (sgm zs) (pt9 zs tp) (sixF zs) (lB (sixF zs) (pkt zs)) D
def to9 (zs D : List Nat) (tp : Nat) : List Nat := zs.take (nN zs) ++ ((dsX (sixF zs) (pkt zs) D).take (fS (sixF zs) (pkt zs)) ++ (sg9 zs D tp ++ zs.drop (nE zs)))
def ok9 (zs : List Nat) (v : Bool) (D : List Nat) : Bool := decide (rr zs = 0) && ((v == sixF zs) && vldA v D)
structure Frame9 (zs : List Nat) : Prop where
  net0 : (net zs).2.2 = 0
  n0 : (net zs).1 = 14 ∨ (net zs).1 = 18
  nl : (net zs).1 ≤ zs.length
  hr : fhr (sixF zs) (pkt zs) = 0
  hd0 : Head (sixF zs) (pkt zs)
  pl : (pkt zs).length = zs.length - (net zs).1
  fs0 : fs (fP (sixF zs) (pkt zs)) (sgm zs) = 0
  sl : (sgm zs).length = fL (sixF zs) (pkt zs) - fS (sixF zs) (pkt zs)
  eL : nE zs ≤ zs.length
  sE : nS zs ≤ nE zs
  cut : zs = zs.take (nN zs) ++ ((pkt zs).take (fS (sixF zs) (pkt zs)) ++ (sgm zs ++ zs.drop (nE zs)))
theorem frame9 (zs : List Nat) (h : rr zs = 0) : Frame9 zs := by
  obtain ⟨h1, h2, h3⟩ := rr_yes zs h
  obtain ⟨hn, hnl, -⟩ := net_ok zs h1
  have hH := fhd_yes _ _ h2
  have q1 := hH.mid
  have q2 := hH.high
  have pl : (pkt zs).length = zs.length - (net zs).1 := by simp [pkt]
  have hE : nE zs ≤ zs.length := by unfold nE; omega
  refine ⟨h1, hn, hnl, h2, hH, pl, h3, ?_, hE, by unfold nS nE; omega, ?_⟩
  · unfold sgm
    rw [List.length_take, List.length_drop]; omega
  · have e1 : zs = zs.take (nN zs) ++ pkt zs := (List.take_append_drop (nN zs) zs).symm
    have e2 : pkt zs = (pkt zs).take (fS (sixF zs) (pkt zs)) ++ (pkt zs).drop (fS (sixF zs) (pkt zs)) := (List.take_append_drop _ _).symm
    have e3 : (pkt zs).drop (fS (sixF zs) (pkt zs)) = sgm zs ++ zs.drop (nE zs) := by
      have e4 : (pkt zs).drop (fS (sixF zs) (pkt zs)) = zs.drop (nS zs) := by
        show (zs.drop (net zs).1).drop (fS (sixF zs) (pkt zs)) = zs.drop ((net zs).1 + fS (sixF zs) (pkt zs))
        rw [List.drop_drop]
      have e5 : sgm zs = (zs.drop (nS zs)).take (fL (sixF zs) (pkt zs) - fS (sixF zs) (pkt zs)) := rfl
      have e6 : zs.drop (nE zs) = (zs.drop (nS zs)).drop (fL (sixF zs) (pkt zs) - fS (sixF zs) (pkt zs)) := by
        rw [List.drop_drop]; congr 1; unfold nS nE; omega
      rw [e4, e5, e6, List.take_append_drop]
    rw [← e3, ← e2, ← e1]
theorem fP_or {zs : List Nat} (h : Frame9 zs) : fP (sixF zs) (pkt zs) = 6 ∨ fP (sixF zs) (pkt zs) = 17 := h.hd0.pr
theorem sgm_lt (zs : List Nat) (hb : ∀ c ∈ zs, c < 256) : ∀ c ∈ sgm zs, c < 256 := fun c hc => hb c (List.mem_of_mem_drop (List.mem_of_mem_take hc))
theorem pkt_lt (zs : List Nat) (hb : ∀ c ∈ zs, c < 256) : ∀ c ∈ pkt zs, c < 256 := fun c hc => hb c (List.mem_of_mem_drop hc)
theorem pt9_lt (zs : List Nat) (tp : Nat) (hb : ∀ c ∈ zs, c < 256) (h : tp < 65536) : pt9 zs tp < 65536 := by
  unfold pt9; split
  · exact u2_lt _ 2 (sgm_lt zs hb)
  · exact h
theorem sg9_ported (zs D : List Nat) (tp : Nat) (hb : ∀ c ∈ zs, c < 256) (h : rr zs = 0) (hD : D.length = 16) (ht : tp < 65536) :
    Ported (fP (sixF zs) (pkt zs)) (sgm zs) (pt9 zs tp) (sixF zs) (lB (sixF zs) (pkt zs)) D := by
  have hF := frame9 zs h
  exact ported _ _ _ _ _ _ (sgm_lt zs hb) hF.fs0 (pt9_lt zs tp hb ht) (lB_len _ _ hF.hr) hD (lB_lt _ _ (pkt_lt zs hb))
end Go.Proofs.Ythionipmohbnhaa
namespace Go.Proofs.Ythionipmohbnhaa
open Go.RowKit
theorem net_same (zs o : List Nat) (h : (net zs).2.2 = 0) (hl : o.length = zs.length) (ht : o.take (net zs).1 = zs.take (net zs).1) : net o = net zs := by
  obtain ⟨hn, hnl, -⟩ := net_ok zs h
  have h14 : ¬ zs.length < 14 := by omega
  have e12 := same_u2 o zs _ 12 ht (by omega)
  by_cases h33 : u2 zs 12 = 33024
  · have e : net zs = if zs.length < 18 then (0, 0, 1) else netK 18 (u2 zs 16) := by unfold net; rw [if_neg h14, if_pos h33]
    have h18 : ¬ zs.length < 18 := fun x => by rw [e, if_pos x] at h; simp at h
    rw [if_neg h18] at e
    have en : (net zs).1 = 18 := by
      rw [e] at h ⊢
      unfold netK at h ⊢
      split at h
      · rename_i q; rw [if_pos q]
      · simp at h
    rw [en] at ht
    have e16 := same_u2 o zs 18 16 ht (by omega)
    unfold net
    rw [hl, e12, e16]
  · unfold net
    rw [hl, e12, if_neg h14, if_neg h14, if_neg h33, if_neg h33]
theorem fA_cells (v : Bool) (T : List Nat) : fA v T = cellsA v (lA v T) := Value.agg.inj (lA_eq v T)
theorem fB_cells (v : Bool) (T : List Nat) : fB v T = cellsA v (lB v T) := Value.agg.inj (lB_eq v T)
theorem gd_sum (p : Nat) (zs : List Nat) (v : Bool) (S D : List Nat) (h : gd p zs v S v D = true) : wo p zs = true ∨ tsum p zs v S D % 65535 = 0 := by
  by_cases h1 : wo p zs = true
  · exact .inl h1
  · refine .inr ?_
    by_cases h2 : tsum p zs v S D % 65535 = 0
    · exact h2
    · rw [gd_no p zs v S D (by simpa using h1) h2] at h; cases h
structure Gone9 (zs D : List Nat) (tp : Nat) (o : List Nat) : Prop where
  len : o.length = zs.length
  lt : ∀ c ∈ o, c < 256
  net1 : net o = net zs
  six : sixF o = sixF zs
  sS : fS (sixF zs) (pkt o) = fS (sixF zs) (pkt zs)
  sL : fL (sixF zs) (pkt o) = fL (sixF zs) (pkt zs)
  sP : fP (sixF zs) (pkt o) = fP (sixF zs) (pkt zs)
  sA : lA (sixF zs) (pkt o) = lA (sixF zs) (pkt zs)
  sB : lB (sixF zs) (pkt o) = D
  sg : sgm o = sg9 zs D tp
  rr0 : rr o = 0
  pN : nN o = nN zs
  pS : nS o = nS zs
  pE : nE o = nE zs
  vw1 : vw o = vcells (sixF zs) (nN zs) (nS zs) (nE zs) (kcells (fP (sixF zs) (pkt zs)) (cellsA (sixF zs) (lA (sixF zs) (pkt zs))) (cellsA (sixF zs) D) (u2 (sgm zs) 0) (pt9 zs tp)) (fl (fP (sixF zs) (pkt zs)) (sgm zs))
  good : gf zs = true → gf o = true
  hd : ∀ k, k < fS (sixF zs) (pkt zs) → o.getD (nN zs + k) 0 = (dsX (sixF zs) (pkt zs) D).getD k 0
  se : ∀ k, k < fL (sixF zs) (pkt zs) - fS (sixF zs) (pkt zs) → o.getD (nS zs + k) 0 = (sg9 zs D tp).getD k 0
  off : ∀ i, i < nN zs ∨ nE zs ≤ i → o.getD i 0 = zs.getD i 0
theorem gone9 (zs D : List Nat) (tp : Nat) (hb : ∀ c ∈ zs, c < 256) (h : rr zs = 0) (hD : D.length = 16) (hbD : ∀ c ∈ D, c < 256) (hv : vldA (sixF zs) D = true) (ht : tp < 65536) : Gone9 zs D tp (to9 zs D tp) := by
  have hF := frame9 zs h
  have hP := sg9_ported zs D tp hb h hD ht
  have hG := gone4 (sixF zs) (pkt zs) D (pkt_lt zs hb) hF.hr hD hv
  have q1 := hF.hd0.mid
  have q2 := hF.hd0.high
  have q3 := hF.pl
  have q4 := hF.nl
  have q5 := hF.n0
  have hsl : (sg9 zs D tp).length = fL (sixF zs) (pkt zs) - fS (sixF zs) (pkt zs) := hP.len.trans hF.sl
  have hnl : (zs.take (net zs).1).length = (net zs).1 := by rw [List.length_take]; exact Nat.min_eq_left hF.nl
  have hxl : ((dsX (sixF zs) (pkt zs) D).take (fS (sixF zs) (pkt zs))).length = fS (sixF zs) (pkt zs) := by rw [List.length_take, hG.len]; omega
  have eN : nN zs = (net zs).1 := rfl
  have eS : nS zs = (net zs).1 + fS (sixF zs) (pkt zs) := rfl
  have eE : nE zs = (net zs).1 + fL (sixF zs) (pkt zs) := rfl
  have eo : to9 zs D tp = zs.take (net zs).1 ++ ((dsX (sixF zs) (pkt zs) D).take (fS (sixF zs) (pkt zs)) ++ (sg9 zs D tp ++ zs.drop (nE zs))) := rfl
  generalize to9 zs D tp = o at *
  have hlen : o.length = zs.length := by
    rw [eo, List.length_append, List.length_append, List.length_append, hnl, hxl, hsl, List.length_drop, eE]; omega
  have htk : o.take (net zs).1 = zs.take (net zs).1 := by rw [eo]; exact take_app _ _ _ hnl
  have hpk : pkt o = (dsX (sixF zs) (pkt zs) D).take (fS (sixF zs) (pkt zs)) ++ (sg9 zs D tp ++ zs.drop (nE zs)) := by
    unfold pkt; rw [net_same zs o hF.net0 hlen htk, eo]; exact drop_app _ _ _ hnl
  have hnet := net_same zs o hF.net0 hlen htk
  have hsix : sixF o = sixF zs := by unfold sixF; rw [hnet]
  have hpl : (pkt o).length = (pkt zs).length := by
    rw [hpk, List.length_append, List.length_append, hxl, hsl, List.length_drop, eE]; omega
  have hS := same_head (sixF zs) (dsX (sixF zs) (pkt zs) D) (pkt o) hG.head (by rw [hG.l, hpl]; exact q2) (by rw [hG.s, hpk]; exact take_app _ _ _ hxl)
  have sS := hS.s.trans hG.s
  have sL := hS.l.trans hG.l
  have sP := hS.p.trans hG.p
  have sA := hS.a.trans hG.a
  have sB := hS.b.trans hG.b
  have hsg : sgm o = sg9 zs D tp := by
    unfold sgm
    rw [hsix, hnet, sS, sL]
    have : o.drop ((net zs).1 + fS (sixF zs) (pkt zs)) = sg9 zs D tp ++ zs.drop (nE zs) := by
      rw [eo, ← List.append_assoc]
      exact drop_app _ _ _ (by rw [List.length_append, hnl, hxl])
    rw [this]
    exact take_app _ _ _ hsl
  have hrr : rr o = 0 := by
    unfold rr
    rw [hsix, hnet, hF.net0, hS.r, sP, hsg, if_neg (by simp), if_neg (by simp)]
    exact hP.fs
  have hlt : ∀ c ∈ o, c < 256 := by
    intro c hc
    rw [eo] at hc
    rcases List.mem_append.1 hc with hc | hc
    · exact hb c (List.mem_of_mem_take hc)
    · rcases List.mem_append.1 hc with hc | hc
      · exact dsX_lt _ _ _ (pkt_lt zs hb) hbD c (List.mem_of_mem_take hc)
      · rcases List.mem_append.1 hc with hc | hc
        · exact hP.lt c hc
        · exact hb c (List.mem_of_mem_drop hc)
  have gN : ∀ i, i < (net zs).1 → o.getD i 0 = zs.getD i 0 := fun i hi => same_get o zs _ i htk hi
  refine ⟨hlen, hlt, hnet, hsix, sS, sL, sP, sA, sB, hsg, hrr, ?_, ?_, ?_, ?_, ?_, ?_, ?_, ?_⟩
  · unfold nN; rw [hnet]
  · unfold nS; rw [hnet, hsix, sS]
  · unfold nE; rw [hnet, hsix, sL]
  · unfold vw keyF
    rw [if_pos hrr, hsix, hnet, sS, sL, sP, hsg, fA_cells, fB_cells, sA, sB]
    have e0 : u2 (sg9 zs D tp) 0 = u2 (sgm zs) 0 := hP.u0
    have e2 : u2 (sg9 zs D tp) 2 = pt9 zs tp := hP.u2
    have ef : fl (fP (sixF zs) (pkt zs)) (sg9 zs D tp) = fl (fP (sixF zs) (pkt zs)) (sgm zs) := by
      unfold fl
      split
      · rename_i h6
        exact hP.get 13 (by omega) (by omega) (by rw [h6]; simp [sAt]) (by rw [h6]; simp [sAt])
      · rfl
    rw [e0, e2, ef]; rfl
  · intro hg
    unfold gf at hg ⊢
    rw [hsix, sP, hsg, sA, sB, hrr]
    simp only [h, decide_true, Bool.true_and] at hg ⊢
    have hp : 0 < fP (sixF zs) (pkt zs) := by rcases fP_or hF with e | e <;> omega
    refine gd_yes _ _ _ _ _ hp hP.fs ?_
    rcases gd_sum _ _ _ _ _ hg with e | e
    · exact .inl ((hP.wo).trans e)
    · by_cases hw : wo (fP (sixF zs) (pkt zs)) (sgm zs) = true
      · exact .inl ((hP.wo).trans hw)
      · exact .inr ((hP.sum (by simpa using hw) _ (lA_len _ _ hF.hr)).trans e)
  · intro k hk
    rw [eN, eo, getDr _ _ _ (by rw [hnl]; omega), hnl, Nat.add_sub_cancel_left, getDl _ _ _ (by rw [hxl]; exact hk), getD_take _ _ _ hk]
  · intro k hk
    rw [eS, eo, getDr _ _ _ (by rw [hnl]; omega), hnl, getDr _ _ _ (by rw [hxl]; omega), hxl, getDl _ _ _ (by rw [hsl]; omega)]
    congr 1; omega
  · intro i hi
    rcases hi with hi | hi
    · exact gN i hi
    · have hi : (net zs).1 + fL (sixF zs) (pkt zs) ≤ i := hi
      rw [eo, getDr _ _ _ (by rw [hnl]; omega), hnl, getDr _ _ _ (by rw [hxl]; omega), hxl, getDr _ _ _ (by rw [hsl]; omega), hsl, getD_dr, eE]
      congr 1; omega
theorem gone_get (zs D : List Nat) (tp : Nat) (hb : ∀ c ∈ zs, c < 256) (h : rr zs = 0) (hD : D.length = 16) (hbD : ∀ c ∈ D, c < 256) (hv : vldA (sixF zs) D = true) (ht : tp < 65536) (i : Nat)
    (hne : (to9 zs D tp).getD i 0 ≠ zs.getD i 0) :
    (sixF zs = false ∧ (i = nN zs + 10 ∨ i = nN zs + 11 ∨ nN zs + 16 ≤ i ∧ i < nN zs + 20)) ∨ (sixF zs = true ∧ nN zs + 24 ≤ i ∧ i < nN zs + 40) ∨
      i = nS zs + 2 ∨ i = nS zs + 3 ∨ i = nS zs + sAt (fP (sixF zs) (pkt zs)) ∨ i = nS zs + sAt (fP (sixF zs) (pkt zs)) + 1 := by
  have hF := frame9 zs h
  have hP := sg9_ported zs D tp hb h hD ht
  have hG := gone4 (sixF zs) (pkt zs) D (pkt_lt zs hb) hF.hr hD hv
  have g := gone9 zs D tp hb h hD hbD hv ht
  have eN : nN zs = (net zs).1 := rfl
  have eS : nS zs = (net zs).1 + fS (sixF zs) (pkt zs) := rfl
  have eE : nE zs = (net zs).1 + fL (sixF zs) (pkt zs) := rfl
  by_cases h1 : i < nN zs ∨ nE zs ≤ i
  · exact absurd (g.off i h1) hne
  · by_cases h2 : i < nS zs
    · obtain ⟨k, rfl⟩ : ∃ k, i = nN zs + k := ⟨i - nN zs, by omega⟩
      have e := g.hd k (by omega)
      rw [e] at hne
      have e2 : zs.getD (nN zs + k) 0 = (pkt zs).getD k 0 := (getD_dr zs (net zs).1 k).symm
      rw [e2] at hne
      by_cases h3 : sixF zs = false ∧ (k = 10 ∨ k = 11 ∨ 16 ≤ k ∧ k < 20)
      · obtain ⟨h3, h4⟩ := h3; exact .inl ⟨h3, by omega⟩
      · by_cases h4 : sixF zs = true ∧ 24 ≤ k ∧ k < 40
        · obtain ⟨h4, h5⟩ := h4; exact .inr (.inl ⟨h4, by omega⟩)
        · exact absurd (hG.get k h3 h4) hne
    · obtain ⟨k, rfl⟩ : ∃ k, i = nS zs + k := ⟨i - nS zs, by omega⟩
      have e := g.se k (by omega)
      rw [e] at hne
      have e2 : zs.getD (nS zs + k) 0 = (sgm zs).getD k 0 := by
        unfold sgm
        rw [getD_take _ _ _ (by omega), getD_dr]; rfl
      rw [e2] at hne
      by_cases h3 : k = 2 ∨ k = 3 ∨ k = sAt (fP (sixF zs) (pkt zs)) ∨ k = sAt (fP (sixF zs) (pkt zs)) + 1
      · exact .inr (.inr (by omega))
      · exact absurd (hP.get k (by omega) (by omega) (by omega) (by omega)) hne
end Go.Proofs.Ythionipmohbnhaa
namespace Go.Proofs.Ythionipmohbnhaa
open Go.RowKit
set_option maxRecDepth 100000 in
set_option maxHeartbeats 800000 in
theorem net_any (v : Value) (zs : List Nat) (w : World) (hr : Rd w v (nus .u8 zs)) (hb : ∀ c ∈ zs, c < 256) :
    Calls Try.prog 38 #[v] w fun e w' => e = .returned (.tuple #[.int .i64 ((net zs).1 : Nat), .int .u16 ((net zs).2.1 : Nat), .int .i64 ((net zs).2.2 : Nat)]) ∧ w = w' := by
  have HR := Lib.hid hr
  have HB := Lib.hid hb
  obtain ⟨a, cap, rfl, hlc, hl, -⟩ := hr
  rw [nus_length] at hlc HR ⊢
  have hk1 := u2_lt zs 12 hb
  have hk2 := u2_lt zs 16 hb
  clear hb
  have hlm : zs.length ≤ maxLen := Nat.le_trans hlc hl
  clear hl hlc
  by_cases h14 : zs.length < 14
  · rw [net_short zs h14]
    go_enter Try.func38, Try.ntmps38
    go_wp2_with fail
    refine (get16_no _ _ _ 12 _ hlm (.inr (by omega))).mono ?_; rintro e w' ⟨rfl, rfl⟩
    go_wp2
    go_ret3
    exact ⟨rfl, rfl⟩
  · have hk := be_u2 zs 12 (by omega)
    by_cases hv : u2 zs 12 = 33024
    · by_cases h18 : zs.length < 18
      · rw [net_cut zs h14 hv h18]
        go_enter Try.func38, Try.ntmps38
        go_wp2_with fail
        refine (get16_yes _ 12 zs _ HR.out HB.out (by omega)).mono ?_; rintro e w' ⟨rfl, rfl⟩
        rw [hk, hv]
        go_wp2_with fail
        refine (get16_no _ _ _ 16 _ hlm (.inr (by omega))).mono ?_; rintro e w' ⟨rfl, rfl⟩
        go_wp2
        go_ret3
        exact ⟨rfl, rfl⟩
      · have hl := be_u2 zs 16 (by omega)
        rw [net_tag zs h14 hv h18]
        obtain ⟨kd, hK⟩ : ∃ kd, kd = u2 zs 16 := ⟨_, rfl⟩
        rw [← hK] at hl hk2 ⊢
        clear hK
        go_enter Try.func38, Try.ntmps38
        go_wp2_with fail
        refine (get16_yes _ 12 zs _ HR.out HB.out (by omega)).mono ?_; rintro e w' ⟨rfl, rfl⟩
        rw [hk, hv]
        go_wp2_with fail
        refine (get16_yes _ 16 zs _ HR.out HB.out (by omega)).mono ?_; rintro e w' ⟨rfl, rfl⟩
        rw [hl]
        clear hk hl hv hk1
        by_cases h1 : kd = 2048
        · subst h1
          go_wp2
          go_ret3
          exact ⟨rfl, rfl⟩
        · by_cases h2 : kd = 34525
          · subst h2
            go_wp2
            go_ret3
            exact ⟨rfl, rfl⟩
          · have en := Lib.hid (netK_no 18 kd h1 h2)
            have g1 : ((kd : Int) != 2048) = true := by simp; omega
            have g2 : ((kd : Int) != 34525) = true := by simp; omega
            clear h1 h2
            go_wp2
            go_ret3
            exact ⟨by rw [en.out]; rfl, rfl⟩
    · rw [net_bare zs h14 hv]
      obtain ⟨kd, hK⟩ : ∃ k, k = u2 zs 12 := ⟨_, rfl⟩
      rw [← hK] at hk hk1 hv ⊢
      clear hK
      go_enter Try.func38, Try.ntmps38
      go_wp2_with fail
      refine (get16_yes _ 12 zs _ HR.out HB.out (by omega)).mono ?_; rintro e w' ⟨rfl, rfl⟩
      rw [hk]
      clear hk hk2
      have g0 : ((kd : Int) == 33024) = false := by simp; omega
      clear hv
      by_cases h1 : kd = 2048
      · subst h1
        go_wp2
        go_ret3
        exact ⟨rfl, rfl⟩
      · by_cases h2 : kd = 34525
        · subst h2
          go_wp2
          go_ret3
          exact ⟨rfl, rfl⟩
        · have en := Lib.hid (netK_no 14 kd h1 h2)
          have g1 : ((kd : Int) != 2048) = true := by simp; omega
          have g2 : ((kd : Int) != 34525) = true := by simp; omega
          clear h1 h2
          go_wp2
          go_ret3
          exact ⟨by rw [en.out]; rfl, rfl⟩
set_option maxRecDepth 100000 in
set_option maxHeartbeats 400000 in
theorem check_any (va : Value) (zs : List Nat) (w : World) (hr : Rd w va (nus .u8 zs)) (hz : zs.length ≤ 140737488351232) (hb : ∀ c ∈ zs, c < 256) :
    Calls Try.prog 72 #[va] w fun e w' => e = .returned (.int .u16 (ck zs : Nat)) ∧ Below w.heap.size w w' := by
  have h2 := Lib.hid (not_gr (wsp 0 zs))
  go_enter Try.func72, Try.ntmps72
  go_wp2_with fail
  refine (sum_any va zs 0 w hr hz hb (by omega)).mono ?_
  rintro e w' ⟨rfl, hb⟩
  rw [Nat.zero_add]
  go_wp2
  go_ret
  exact ⟨ret_int h2.out, hb⟩
set_option maxRecDepth 100000 in
set_option maxHeartbeats 2000000 in
theorem from_ok (va : Value) (v : Bool) (bs : List Nat) (w : World) (hr : Rd w va (nus .u8 bs)) (h : bs.length = 4 ∧ v = false ∨ bs.length = 16 ∧ v = true) :
    Calls Try.prog 79 #[va] w fun e w' => e = .returned (.tuple #[adr v (bs ++ List.replicate (16 - bs.length) 0), .int .i64 0]) ∧ Below w.heap.size w w' := by
  obtain ⟨a, cap, rfl, hlc, hc⟩ := rd_shape hr
  have hr1 := hr.below ((((Below.refl w.heap.size w).alloc (Nat.le_refl _) (.cells (cellsA false (List.replicate 16 0)) 25)).alloc (by simp) (.cells (cellsA v (List.replicate 16 0)) 25)))
  obtain ⟨b0, o0, rfl, hcell0⟩ := hr1.cells (by omega)
  clear hr hr1
  rcases h with ⟨h4, rfl⟩ | ⟨h16, rfl⟩
  · have d4 : (((4 : Nat) : Int) != 4) = false := by rfl
    have hcell := hcell0
    obtain ⟨cs, hcs⟩ : ∃ cs, cs = cellsA false (bs ++ List.replicate (16 - bs.length) 0) := ⟨_, rfl⟩
    have hz : cs.size = 17 := by rw [hcs, cellsA_size, List.length_append, List.length_replicate]; omega
    have HZ := Lib.hid (i24.trans (congrArg some hz.symm))
    have HZ2 := Lib.hid (hz.trans (cellsA_size false (List.replicate 16 0)).symm)
    have HAll := Lib.hid (show cs.all (·.oneCell') = true by rw [hcs]; exact cellsA_all _ _)
    have HSP := Lib.hid ((splice_at false bs (by omega)).trans hcs.symm)
    have HC := Lib.hid hcs
    have HL := Lib.hid h4
    have HO := Lib.hid ((Blk.new w 25 (cellsA false (List.replicate 16 0))).alloc (.cells (cellsA false (List.replicate 16 0)) 25))
    have HN := Lib.hid (show Blk ((w.alloc (.cells (cellsA false (List.replicate 16 0)) 25)).alloc (.cells (cellsA false (List.replicate 16 0)) 25)) (w.heap.size + 1) 25 (cellsA false (List.replicate 16 0)) by
      have := Blk.new (w.alloc (.cells (cellsA false (List.replicate 16 0)) 25)) 25 (cellsA false (List.replicate 16 0)); rw [World.size_alloc] at this; exact this)
    have HCE := Lib.hid hcell
    have HB := Lib.hid ((((Below.refl w.heap.size w).alloc (Nat.le_refl _) (.cells (cellsA false (List.replicate 16 0)) 25)).alloc (by simp) (.cells (cellsA false (List.replicate 16 0)) 25)))
    clear hcell hcell0 hz hcs
    rw [HL.out]
    clear d4
    have d4 : (((4 : Int)) != 4) = false := by rfl
    clear d4
    go_enter Try.func79, Try.ntmps79
    go_wp2_with ((with_reducible refine wpList_copy_splice (o := ⟨some 21, _, _, _, _, _⟩) rfl (.tmp 19) (.tmp 20) 22 22 rfl 5 Try.underlying22 info5_size _ _ _ _ _ _ rfl rfl (w.heap.size + 1) 1 (cellsA false (List.replicate 16 0)).toList 25 ?cg4 (nus .u8 bs) ?cn4 ?cp4 ?cf4 ?co4 (w.heap.size + 1) _ (Below.refl _ _) (Nat.le_refl _) ?_))
    case cg4 => rw [Array.toArray_toList]; exact HN.out
    case cn4 => rw [nus_length, HL.out]; rfl
    case cp4 =>
      intro _ j u hj
      have hjl : j < bs.length := by have := (List.getElem?_eq_some_iff.1 hj).1; rwa [nus_length] at this
      rw [nus_get _ _ _ hjl] at hj
      cases hj
      exact HCE.out j hjl
    case cf4 => rw [nus_length, HL.out]; decide
    case co4 => exact oneCell_nus _ _
    intro W2 hg2 hb2
    have h2 : W2.heap[w.heap.size + 1]? = some (.cells (splice (cellsA false (List.replicate 16 0)).toList 1 (nus .u8 bs)).toArray 25 (0, 0)) := hg2.out
    rw [HSP.out] at h2
    have HW2 := Lib.hid (show Blk W2 (w.heap.size + 1) 25 cs from h2)
    have HO2 := Lib.hid (show Blk W2 w.heap.size 25 (cellsA false (List.replicate 16 0)) from (hb2.block _ (Nat.lt_succ_self _)).trans HO.out)
    have HB2 := Lib.hid (HB.out.trans (hb2.mono (Nat.le_succ _)))
    clear h2 hg2 hb2
    go_wp2_with (first
      | ((with_reducible refine wpList_blk_load (op := ⟨some 22, .load 25 (.tmp 4), _, _, _, _⟩) ?lg1 25 (.tmp 4) ?lo1 (w.heap.size + 1) ?lx1 _ HW2.out Try.underlying25 ?ld1 HZ.out ?_); (case lg1 => rfl); (case lo1 => rfl); (case lx1 => rfl); (case ld1 => rfl))
      | ((with_reducible refine wpList_blk_store (op := ⟨none, .store 25 (.tmp 2) (.tmp 22), _, _, _, _⟩) ?sg1 25 (.tmp 2) (.tmp 22) ?so1 w.heap.size cs ?sx1 ?sy1 HO2.out HZ2.out HZ.out HAll.out ?_); (case sg1 => rfl); (case so1 => rfl); (case sx1 => rfl); (case sy1 => rfl)))
    intro w3 hA hF hB
    have HF := Lib.hid hF
    have HA := Lib.hid hA
    clear hF hA
    go_wp2
    have hrun := run_blk_load (P := Try.prog) 25 w.heap.size _ HA.out Try.underlying25 rfl HZ.out
    refine bodyPost_ret (results_cell_tmp 2 25 3 w.heap.size _ Try.results79 rfl hrun) rfl ⟨?_, HB2.out.trans (hB _ (Nat.le_refl _))⟩
    rw [HC.out, HL.out]
    rfl
  · have d4 : (((16 : Nat) : Int) != 4) = true := by rfl
    have hcell := hcell0
    obtain ⟨cs, hcs⟩ : ∃ cs, cs = cellsA true (bs ++ List.replicate (16 - bs.length) 0) := ⟨_, rfl⟩
    have hz : cs.size = 17 := by rw [hcs, cellsA_size, List.length_append, List.length_replicate]; omega
    have HZ := Lib.hid (i24.trans (congrArg some hz.symm))
    have HZ2 := Lib.hid (hz.trans (cellsA_size false (List.replicate 16 0)).symm)
    have HAll := Lib.hid (show cs.all (·.oneCell') = true by rw [hcs]; exact cellsA_all _ _)
    have HSP := Lib.hid ((splice_at true bs (by omega)).trans hcs.symm)
    have HC := Lib.hid hcs
    have HL := Lib.hid h16
    have HO := Lib.hid ((Blk.new w 25 (cellsA false (List.replicate 16 0))).alloc (.cells (cellsA true (List.replicate 16 0)) 25))
    have HN := Lib.hid (show Blk ((w.alloc (.cells (cellsA false (List.replicate 16 0)) 25)).alloc (.cells (cellsA true (List.replicate 16 0)) 25)) (w.heap.size + 1) 25 (cellsA true (List.replicate 16 0)) by
      have := Blk.new (w.alloc (.cells (cellsA false (List.replicate 16 0)) 25)) 25 (cellsA true (List.replicate 16 0)); rw [World.size_alloc] at this; exact this)
    have HCE := Lib.hid hcell
    have HB := Lib.hid ((((Below.refl w.heap.size w).alloc (Nat.le_refl _) (.cells (cellsA false (List.replicate 16 0)) 25)).alloc (by simp) (.cells (cellsA true (List.replicate 16 0)) 25)))
    clear hcell hcell0 hz hcs
    rw [HL.out]
    clear d4
    have d4 : (((4 : Int)) != 4) = false := by rfl
    clear d4
    go_enter Try.func79, Try.ntmps79
    go_wp2_with ((with_reducible refine wpList_copy_splice (o := ⟨some 21, _, _, _, _, _⟩) rfl (.tmp 19) (.tmp 20) 22 22 rfl 5 Try.underlying22 info5_size _ _ _ _ _ _ rfl rfl (w.heap.size + 1) 1 (cellsA true (List.replicate 16 0)).toList 25 ?cg16 (nus .u8 bs) ?cn16 ?cp16 ?cf16 ?co16 (w.heap.size + 1) _ (Below.refl _ _) (Nat.le_refl _) ?_))
    case cg16 => rw [Array.toArray_toList]; exact HN.out
    case cn16 => rw [nus_length, HL.out]; rfl
    case cp16 =>
      intro _ j u hj
      have hjl : j < bs.length := by have := (List.getElem?_eq_some_iff.1 hj).1; rwa [nus_length] at this
      rw [nus_get _ _ _ hjl] at hj
      cases hj
      exact HCE.out j hjl
    case cf16 => rw [nus_length, HL.out]; decide
    case co16 => exact oneCell_nus _ _
    intro W2 hg2 hb2
    have h2 : W2.heap[w.heap.size + 1]? = some (.cells (splice (cellsA true (List.replicate 16 0)).toList 1 (nus .u8 bs)).toArray 25 (0, 0)) := hg2.out
    rw [HSP.out] at h2
    have HW2 := Lib.hid (show Blk W2 (w.heap.size + 1) 25 cs from h2)
    have HO2 := Lib.hid (show Blk W2 w.heap.size 25 (cellsA false (List.replicate 16 0)) from (hb2.block _ (Nat.lt_succ_self _)).trans HO.out)
    have HB2 := Lib.hid (HB.out.trans (hb2.mono (Nat.le_succ _)))
    clear h2 hg2 hb2
    go_wp2_with (first
      | ((with_reducible refine wpList_blk_load (op := ⟨some 22, .load 25 (.tmp 4), _, _, _, _⟩) ?lg2 25 (.tmp 4) ?lo2 (w.heap.size + 1) ?lx2 _ HW2.out Try.underlying25 ?ld2 HZ.out ?_); (case lg2 => rfl); (case lo2 => rfl); (case lx2 => rfl); (case ld2 => rfl))
      | ((with_reducible refine wpList_blk_store (op := ⟨none, .store 25 (.tmp 2) (.tmp 22), _, _, _, _⟩) ?sg2 25 (.tmp 2) (.tmp 22) ?so2 w.heap.size cs ?sx2 ?sy2 HO2.out HZ2.out HZ.out HAll.out ?_); (case sg2 => rfl); (case so2 => rfl); (case sx2 => rfl); (case sy2 => rfl)))
    intro w3 hA hF hB
    have HF := Lib.hid hF
    have HA := Lib.hid hA
    clear hF hA
    go_wp2
    have hrun := run_blk_load (P := Try.prog) 25 w.heap.size _ HA.out Try.underlying25 rfl HZ.out
    refine bodyPost_ret (results_cell_tmp 2 25 3 w.heap.size _ Try.results79 rfl hrun) rfl ⟨?_, HB2.out.trans (hB _ (Nat.le_refl _))⟩
    rw [HC.out, HL.out]
    rfl
end Go.Proofs.Ythionipmohbnhaa
namespace Go.Proofs.Ythionipmohbnhaa
open Go.RowKit
set_option maxRecDepth 100000 in
set_option maxHeartbeats 400000 in
theorem word4_any (v : Value) (k : Nat) (zs : List Nat) (w : World) (hr : Rd w v (nus .u8 zs)) (hb : ∀ c ∈ zs, c < 256) (hk : k + 2 ≤ zs.length) :
    Calls Try.prog 60 #[v, .int .i64 (k : Int)] w fun e w' => e = .returned (.int .u16 (u2 zs k : Nat)) ∧ w = w' := by
  have H := Lib.hid (get16_yes v k zs w hr hb hk)
  have HE := Lib.hid (be_u2 zs k hk)
  clear hr hb hk
  go_enter Try.func60, Try.ntmps60
  go_wp2_with fail
  refine H.out.mono ?_; rintro e w' ⟨rfl, rfl⟩
  rw [HE.out]
  go_wp2
  go_ret
  exact ⟨rfl, rfl⟩
set_option maxRecDepth 100000 in
set_option maxHeartbeats 400000 in
theorem sizeOf_any (v : Value) (zs : List Nat) (w : World) (hr : Rd w v (nus .u8 zs)) (hb : ∀ c ∈ zs, c < 256) (h0 : 0 < zs.length) :
    Calls Try.prog 71 #[v] w fun e w' => e = .returned (.int .i64 (hs zs : Nat)) ∧ w = w' := by
  obtain ⟨a, cap, rfl, h1, h2⟩ := rd_shape hr
  obtain ⟨b, off, rfl, hc⟩ := hr.cells h0
  have c0 := hc 0 h0
  have hx := getD_lt zs hb 0
  have hl := Lib.hid (low4 _ hx)
  have hH := Lib.hid (show (4 * (zs.getD 0 0 % 16) : Nat) = hs zs from rfl)
  unfold maxLen at h2
  obtain ⟨len, hle⟩ : ∃ n, n = zs.length := ⟨_, rfl⟩
  rw [← hle] at h0 h1 ⊢
  generalize zs.getD 0 0 = x at *
  rw [Nat.add_zero] at c0
  clear hc hr hb hle
  have hl' := hl.out
  go_enter Try.func71, Try.ntmps71
  go_wp2
  go_ret
  exact ⟨ret_int (by rw [← hH.out]; go_num), rfl⟩
set_option maxRecDepth 100000 in
set_option maxHeartbeats 1000000 in
theorem fault4_any (v : Value) (zs : List Nat) (w : World) (hr : Rd w v (nus .u8 zs)) (hb : ∀ c ∈ zs, c < 256) :
    Calls Try.prog 57 #[v] w fun e w' => e = .returned (.int .i64 (ff zs : Nat)) ∧ Below w.heap.size w w' := by
  obtain ⟨a, cap, rfl, h1, h2⟩ := rd_shape hr
  by_cases h20 : zs.length < 20
  · have hf : ff zs = 1 := by unfold ff; rw [if_pos h20]
    rw [hf]
    unfold maxLen at h2
    clear hr hb hf
    go_enter Try.func57, Try.ntmps57
    go_wp2
    go_ret
    exact ⟨rfl, Below.refl _ _⟩
  obtain ⟨b, off, rfl, hc⟩ := hr.cells (by omega)
  have c0 := hc 0 (by omega)
  have c9 := hc 9 (by omega)
  obtain ⟨va, hva⟩ : ∃ va, va = Value.slice (some ⟨b, off, none⟩) zs.length cap := ⟨_, rfl⟩
  have SZ := Lib.hid (sizeOf_any va zs w (hva ▸ hr) hb (by omega))
  have W2 := Lib.hid (fun w' (h : Rd w' va (nus .u8 zs)) => word4_any va 2 zs w' h hb (by omega))
  have W6 := Lib.hid (fun w' (h : Rd w' va (nus .u8 zs)) => word4_any va 6 zs w' h hb (by omega))
  have HR := Lib.hid (show Rd w va (nus .u8 zs) from hva ▸ hr)
  rw [hva] at SZ W2 W6 HR
  have hx := getD_lt zs hb 0
  have hp := getD_lt zs hb 9
  have hl := u2_lt zs 2 hb
  have hg := u2_lt zs 6 hb
  have hs4 := hs_lt zs
  have HL := Lib.hid (low14 _ hg)
  have HC := Lib.hid (fun w' h => check_any (.slice (some ⟨b, off, none⟩) (hs zs) cap) (zs.take (hs zs)) w' h (by simp; omega) (fun c hc => hb c (List.mem_of_mem_take hc)))
  have hck := ck_le (zs.take (hs zs))
  have HFr := Lib.hid (fun w' (h : Rd w' (.slice (some ⟨b, off, none⟩) zs.length cap) (nus .u8 zs)) => h.front (hs zs))
  unfold maxLen at h2
  rw [Nat.add_zero] at c0
  clear hc hr hb hva va
  obtain ⟨F, hFe⟩ : ∃ F, F = ff zs := ⟨_, rfl⟩
  rw [show (Calls Try.prog 57 #[.slice (some ⟨b, off, none⟩) zs.length cap] w fun e w' => e = .returned (.int .i64 (ff zs : Nat)) ∧ Below w.heap.size w w') = _ from by rw [← hFe]]
  unfold ff at hFe
  have HF := Lib.hid hFe
  clear hFe
  generalize zs.getD 0 0 = x at *
  generalize zs.getD 9 0 = p at *
  generalize hs zs = s at *
  generalize u2 zs 2 = l at *
  generalize u2 zs 6 = g at *
  generalize ck (zs.take s) = q at *
  generalize zs.take s = T at *
  generalize zs.length = n at *
  go_enter Try.func57, Try.ntmps57
  go_wp2_with fail
  refine SZ.out.mono ?_; rintro e w' ⟨rfl, rfl⟩
  go_wp2_with fail
  refine (W2.out _ HR.out).mono ?_; rintro e w' ⟨rfl, rfl⟩
  clear SZ W2
  by_cases h4 : x / 16 = 4
  case neg =>
    have hf : F = 3 := by rw [HF.out, if_neg h20, if_pos (.inl h4)]
    have g4 : ((x : Int) / 16 != 4) = true := by rw [bne_iff_ne]; omega
    subst hf
    clear h4
    go_wp2
    go_ret
    exact ⟨rfl, Below.refl _ _⟩
  have g4 : ((x : Int) / 16 != 4) = false := by rw [bne_eq_false_iff_eq]; omega
  by_cases hs20 : s < 20
  · have hf : F = 3 := by rw [HF.out, if_neg h20, if_pos (.inr (.inl hs20))]
    subst hf
    clear h4
    go_wp2
    go_ret
    exact ⟨rfl, Below.refl _ _⟩
  by_cases hls : l < s
  · have hf : F = 3 := by rw [HF.out, if_neg h20, if_pos (.inr (.inr hls))]
    subst hf
    clear h4
    go_wp2
    go_ret
    exact ⟨rfl, Below.refl _ _⟩
  have HF2 := Lib.hid (HF.out.trans ((if_neg h20).trans (if_neg (by omega))))
  clear HF
  by_cases hnl : n < l
  · have hf : F = 1 := by rw [HF2.out, if_pos hnl]
    subst hf
    clear h4
    go_wp2
    go_ret
    exact ⟨rfl, Below.refl _ _⟩
  have HF := Lib.hid (HF2.out.trans (if_neg hnl))
  have HS := Lib.hid (HFr.out w HR.out (by omega))
  clear HF2 h4 HFr
  go_wp2_with fail
  refine (HC.out _ HS.out).mono ?_; rintro e w1 ⟨rfl, b1⟩
  have B1 := Lib.hid b1
  have R1 := Lib.hid (HR.out.below b1)
  clear b1 HC HS HR
  by_cases hq : q = 0
  case neg =>
    have hf : F = 4 := by rw [HF.out, if_pos hq]
    have gq : ((q : Int) != 0) = true := by rw [bne_iff_ne]; omega
    subst hf
    clear hq
    go_wp2
    go_ret
    exact ⟨rfl, B1.out⟩
  have HF2 := Lib.hid (HF.out.trans (if_neg (by omega)))
  subst hq
  clear HF
  go_wp2_with fail
  refine (W6.out _ R1.out).mono ?_; rintro e w' ⟨rfl, rfl⟩
  have hl14 := HL.out
  by_cases hg0 : g % 16384 = 0
  case neg =>
    have hf : F = 5 := by rw [HF2.out, if_pos hg0]
    have gq : (((g % 16384 : Nat) : Int) != 0) = true := by rw [bne_iff_ne]; omega
    subst hf
    clear hg0
    go_wp2
    go_ret
    exact ⟨rfl, B1.out⟩
  have HF := Lib.hid (HF2.out.trans (if_neg (by omega)))
  have gq : (((g % 16384 : Nat) : Int) != 0) = false := by rw [bne_eq_false_iff_eq]; omega
  have hb0 : b < w.heap.size := by
    rcases Nat.lt_or_ge b w.heap.size with h | h
    · exact h
    · simp [World.cell?, Array.getElem?_eq_none h] at c0
  have c9' := (B1.out.cell (p := ⟨b, off + 9, none⟩) hb0).trans c9
  clear HF2 hg0 c0 c9
  by_cases hp6 : p = 6
  · have hf : F = 0 := by rw [HF.out, if_neg (by omega)]
    subst hf hp6
    go_wp2
    go_ret
    exact ⟨rfl, B1.out⟩
  by_cases hp17 : p = 17
  · have hf : F = 0 := by rw [HF.out, if_neg (by omega)]
    subst hf hp17
    go_wp2
    go_ret
    exact ⟨rfl, B1.out⟩
  have hf : F = 6 := by rw [HF.out, if_pos ⟨hp6, hp17⟩]
  have g6 : ((p : Int) != 6) = true := by rw [bne_iff_ne]; omega
  have g17 : ((p : Int) != 17) = true := by rw [bne_iff_ne]; omega
  subst hf
  clear hp6 hp17
  go_wp2
  go_ret
  exact ⟨rfl, B1.out⟩
end Go.Proofs.Ythionipmohbnhaa
