/- Texts that the walks of this seat lean on, put together. -/
import Derived.Lib.QuietBelow
import Derived.Test.YthionipmohbnhaaTk
import Derived.Test.YthionipmohbnhaaM01
import Derived.Test.YthionipmohbnhaaM02
import Derived.Test.YthionipmohbnhaaM06
namespace Go.Proofs.Ythionipmohbnhaa
open Go.RowKit
theorem getDa (Z R : List Nat) (i : Nat) (h : i < Z.length) : (Z ++ R).getD i 0 = Z.getD i 0 := by
  rw [List.getD_eq_getElem?_getD, List.getElem?_append_left h, ← List.getD_eq_getElem?_getD]
theorem u2_app' (Z R : List Nat) (i : Nat) (h : i + 2 ≤ Z.length) : u2 (Z ++ R) i = u2 Z i := by
  unfold u2; rw [getDa _ _ _ (by omega), getDa _ _ _ (by omega)]
theorem ff_more (Z R : List Nat) (h : ff Z = 0) : ff (Z ++ R) = 0 ∧ hs (Z ++ R) = hs Z := by
  obtain ⟨h20, h4, hs20, hsl, hl, hck, hfr, hp⟩ := ff_yes Z h
  have e : hs (Z ++ R) = hs Z := by unfold hs; rw [getDa _ _ _ (by omega)]
  refine ⟨?_, e⟩
  unfold ff
  rw [e, u2_app' _ _ 2 (by omega), u2_app' _ _ 6 (by omega), getDa _ _ 0 (by omega), getDa _ _ 9 (by omega), List.take_append_of_le_length (by omega)]
  have hlen : (Z ++ R).length = Z.length + R.length := by simp
  rw [if_neg (by omega), if_neg (by omega), if_neg (by omega), if_neg (by omega), if_neg (by omega), if_neg (by omega)]
theorem hd_key (v : Bool) (S D : List Nat) (p : Nat) (SG R : List Nat) (n : Nat) (hp : p = 6 ∨ p = 17) (hS : S.length = 16) (hD : D.length = 16) (hvS : vldA v S = true) (hvD : vldA v D = true) (hn : SG.length = n) (hn2 : n ≤ 60000) :
    fhr v (headB v S D p n ++ (SG ++ R)) = 0 ∧ fS v (headB v S D p n ++ (SG ++ R)) = (if v then 40 else 20) ∧ fL v (headB v S D p n ++ (SG ++ R)) = (if v then 40 else 20) + n ∧
      fP v (headB v S D p n ++ (SG ++ R)) = p ∧ fA v (headB v S D p n ++ (SG ++ R)) = cellsA v S ∧ fB v (headB v S D p n ++ (SG ++ R)) = cellsA v D := by
  have hl : n ≤ (SG ++ R).length := by rw [List.length_append]; omega
  cases v with
  | true =>
    have hf := mk6_f S D (SG ++ R) p n hS hD (by omega) hp hl
    refine ⟨hf, rfl, ?_, ?_, ?_, ?_⟩
    · show 40 + u2 (mk6 S D p n ++ (SG ++ R)) 4 = _
      rw [mk6_u2 S D _ p _ (by omega)]; rfl
    · show (mk6 S D p n ++ (SG ++ R)).getD 6 0 = p
      rw [mk6_cons]; rfl
    · show srcA _ = _
      unfold srcA; rw [show headB true S D p n = mk6 S D p n from rfl, mk6_src S D _ p _ hS]
    · show dstA _ = _
      unfold dstA; rw [show headB true S D p n = mk6 S D p n from rfl, mk6_dst S D _ p _ hS hD]
  | false =>
    obtain ⟨q1, q2, q3, q4, q5, q6, q7, q8⟩ := mk_read (S.take 4) (D.take 4) SG p n (by simp [hS]) (by simp [hD]) hn (by omega) hp
    rw [← List.append_assoc]
    rw [show headB false S D p n = mk4 (S.take 4) (D.take 4) p n from rfl]
    obtain ⟨m1, m2⟩ := ff_more _ R q1
    refine ⟨m1, m2.trans q4, ?_, ?_, ?_, ?_⟩
    · show u2 (mk4 (S.take 4) (D.take 4) p n ++ SG ++ R) 2 = _
      rw [u2_app' _ _ 2 (by omega), q5]; rfl
    · show (mk4 (S.take 4) (D.take 4) p n ++ SG ++ R).getD 9 0 = p
      rw [getDa _ _ 9 (by omega), q6]
    · show a4 _ = _
      rw [List.drop_append_of_le_length (by omega), List.take_append_of_le_length (by rw [List.length_drop]; omega), q7]; exact a4_take S hS hvS
    · show a4 _ = _
      rw [List.drop_append_of_le_length (by omega), List.take_append_of_le_length (by rw [List.length_drop]; omega), q3]; exact a4_take D hD hvD
def frR (v : Bool) (S D : List Nat) (p sp dp f : Nat) (data : List Nat) (tag bare : Bool) (R : List Nat) : List Nat :=
  ethB tag v ++ (headB v S D p (hsz p + data.length) ++ (segB p v S D sp dp f data bare ++ R))
theorem frmB_R (v : Bool) (S D : List Nat) (p sp dp f : Nat) (data : List Nat) (tag bare : Bool) (pad : Nat) : frmB v S D p sp dp f data tag bare pad = frR v S D p sp dp f data tag bare (List.replicate pad 0) := by
  unfold frmB frR; simp
def hN (tag : Bool) : Nat := if tag then 18 else 14
def hH (v : Bool) : Nat := if v then 40 else 20
theorem ethB_len (tag v : Bool) : (ethB tag v).length = hN tag := by cases tag <;> cases v <;> rfl
theorem eth_net (tag v : Bool) (X : List Nat) : net (ethB tag v ++ X) = (hN tag, (if v then 34525 else 2048), 0) := by
  have hl : ¬ (ethB tag v ++ X).length < hN tag := by rw [List.length_append, ethB_len]; omega
  cases tag with
  | true =>
    have hl : ¬ (ethB true v ++ X).length < 18 := hl
    have h12 : u2 (ethB true v ++ X) 12 = 33024 := by unfold u2 ethB; cases v <;> simp
    have h16 : u2 (ethB true v ++ X) 16 = if v then 34525 else 2048 := by unfold u2 ethB; cases v <;> simp
    rw [net_tag _ (by omega) h12 hl, h16]
    cases v <;> rfl
  | false =>
    have hl : ¬ (ethB false v ++ X).length < 14 := hl
    have h12 : u2 (ethB false v ++ X) 12 = if v then 34525 else 2048 := by unfold u2 ethB; cases v <;> simp
    rw [net_bare _ hl (by rw [h12]; cases v <;> decide), h12]
    cases v <;> rfl
theorem eth_six (tag v : Bool) (X : List Nat) : sixF (ethB tag v ++ X) = v := by unfold sixF; rw [eth_net]; cases v <;> rfl
theorem eth_pkt (tag v : Bool) (X : List Nat) : pkt (ethB tag v ++ X) = X := by unfold pkt; rw [eth_net]; exact drop_app _ _ _ (ethB_len tag v)
def lyE (tag : Bool) : List (Nat × Nat) := if tag then [(0, 0), (1, 14)] else [(0, 0)]
theorem eth_ly (tag v : Bool) (X : List Nat) : ly0 (ethB tag v ++ X) = lyE tag := by
  have h12 : u2 (ethB tag v ++ X) 12 = if tag then 33024 else if v then 34525 else 2048 := by unfold u2 ethB; cases tag <;> cases v <;> simp
  unfold ly0; rw [h12]
  cases tag <;> cases v <;> rfl
structure Told8 (v : Bool) (S D : List Nat) (p sp dp f : Nat) (data : List Nat) (tag bare : Bool) (R F : List Nat) : Prop where
  len : F.length = hN tag + hH v + (hsz p + data.length) + R.length
  sg : sgm F = segB p v S D sp dp f data bare
  rr : rr F = 0
  vw : vw F = vcells v (hN tag) (hN tag + hH v) (hN tag + hH v + (hsz p + data.length)) (kcells p (cellsA v S) (cellsA v D) sp dp) (if p = 6 then f else 0)
  gf : gf F = true
  ly : lys F = lyE tag ++ [(if v then 3 else 2, hN tag)] ++ [(if p = 17 then 5 else 4, hN tag + hH v)]
theorem lA_of (v : Bool) (T S : List Nat) (h : fA v T = cellsA v S) (hS : S.length = 16) (h2 : fhr v T = 0) : lA v T = S := by
  have e : cellsA v (lA v T) = cellsA v S := by
    have := lA_eq v T
    rw [h] at this
    exact (Value.agg.inj this).symm
  have l1 := lA_len v T h2
  refine ext_getD _ _ 0 (by rw [l1, hS]) fun i hi => ?_
  rw [l1] at hi
  have c1 : (cellsA v (lA v T))[i + 1]? = some (.int .u8 (((lA v T).getD i 0 : Nat) : Int)) := by
    simp [cellsA, List.getD_eq_getElem?_getD, l1, hi]
  have c2 : (cellsA v S)[i + 1]? = some (.int .u8 ((S.getD i 0 : Nat) : Int)) := by
    simp [cellsA, List.getD_eq_getElem?_getD, hS, hi]
  rw [e, c2] at c1
  simp only [Option.some.injEq, Value.int.injEq, true_and] at c1
  omega
theorem lB_of (v : Bool) (T S : List Nat) (h : fB v T = cellsA v S) (hS : S.length = 16) (h2 : fhr v T = 0) : lB v T = S := by
  have e : cellsA v (lB v T) = cellsA v S := by
    have := lB_eq v T
    rw [h] at this
    exact (Value.agg.inj this).symm
  have l1 := lB_len v T h2
  refine ext_getD _ _ 0 (by rw [l1, hS]) fun i hi => ?_
  rw [l1] at hi
  have c1 : (cellsA v (lB v T))[i + 1]? = some (.int .u8 (((lB v T).getD i 0 : Nat) : Int)) := by
    simp [cellsA, List.getD_eq_getElem?_getD, l1, hi]
  have c2 : (cellsA v S)[i + 1]? = some (.int .u8 ((S.getD i 0 : Nat) : Int)) := by
    simp [cellsA, List.getD_eq_getElem?_getD, hS, hi]
  rw [e, c2] at c1
  simp only [Option.some.injEq, Value.int.injEq, true_and] at c1
  omega
theorem told8 (v : Bool) (S D : List Nat) (p sp dp f : Nat) (data : List Nat) (tag bare : Bool) (R : List Nat) (hp : p = 6 ∨ p = 17) (hS : S.length = 16) (hD : D.length = 16) (hvS : vldA v S = true) (hvD : vldA v D = true)
    (hl : data.length ≤ 1500) (hsp : sp < 65536) (hdp : dp < 65536) : Told8 v S D p sp dp f data tag bare R (frR v S D p sp dp f data tag bare R) := by
  have hn := segB_len p hp v S D sp dp f data bare
  have hz : hsz p ≤ 20 := by unfold hsz; split <;> omega
  have h0 := segB_fs p hp v S D sp dp f data bare (by omega)
  have hgd := built_good p hp v S D sp dp f data bare (by omega)
  obtain ⟨hu0, hu2, hfl⟩ := segB_ports p hp v S D sp dp f data bare hsp hdp
  obtain ⟨k1, k2, k3, k4, k5, k6⟩ := hd_key v S D p (segB p v S D sp dp f data bare) R (hsz p + data.length) hp hS hD hvS hvD hn (by omega)
  have hh := headB_len v S D p (hsz p + data.length) hS hD
  unfold frR
  generalize hSG : segB p v S D sp dp f data bare = SG at *
  generalize hX : headB v S D p (hsz p + data.length) ++ (SG ++ R) = X at *
  have hsix := eth_six tag v X
  have hpk := eth_pkt tag v X
  have hnet := eth_net tag v X
  have hdr : (ethB tag v ++ X).drop (hN tag + hH v) = SG ++ R := by
    rw [← hX, ← List.append_assoc]
    exact drop_app _ _ _ (by rw [List.length_append, ethB_len, hh]; rfl)
  have hsg : sgm (ethB tag v ++ X) = SG := by
    unfold sgm
    rw [hsix, hpk, hnet, k2, k3]
    show ((ethB tag v ++ X).drop (hN tag + hH v)).take _ = _
    rw [hdr, Nat.add_sub_cancel_left]
    exact take_app _ _ _ hn
  have hrr : rr (ethB tag v ++ X) = 0 := by
    unfold rr
    rw [hsix, hpk, hnet, k1, k4, hsg, h0]; rfl
  refine ⟨?_, ?_, hrr, ?_, ?_, ?_⟩
  · rw [← hX, List.length_append, List.length_append, List.length_append, ethB_len, hh, hn]; unfold hH; omega
  · rw [hsg, hSG]
  · unfold vw keyF
    rw [if_pos hrr, hsix, hpk, hnet, k2, k3, k4, k5, k6, hsg, hu0, hu2, hfl]
    show vcells v (hN tag) (hN tag + hH v) (hN tag + (hH v + _)) _ _ = _
    rw [Nat.add_assoc]
  · unfold gf
    rw [hsix, hpk, hsg, k4, lA_of v X S k5 hS k1, lB_of v X D k6 hD k1, hrr, hgd]; rfl
  · unfold lys
    rw [hsix, hpk, hnet, k1, k4, hsg, h0, k2, eth_ly]
    rfl
end Go.Proofs.Ythionipmohbnhaa
namespace Go.Proofs.Ythionipmohbnhaa
open Go.RowKit
theorem getDl (A B : List Nat) (i : Nat) (h : i < A.length) : (A ++ B).getD i 0 = A.getD i 0 := getDa A B i h
theorem getDr (A B : List Nat) (i : Nat) (h : A.length ≤ i) : (A ++ B).getD i 0 = B.getD (i - A.length) 0 := by
  rw [List.getD_eq_getElem?_getD, List.getElem?_append_right h, ← List.getD_eq_getElem?_getD]
theorem same_get (A B : List Nat) (k i : Nat) (h : A.take k = B.take k) (hi : i < k) : A.getD i 0 = B.getD i 0 := by
  rw [← getD_take A k i hi, h, getD_take B k i hi]
theorem same_u2 (A B : List Nat) (k i : Nat) (h : A.take k = B.take k) (hi : i + 2 ≤ k) : u2 A i = u2 B i := by
  unfold u2; rw [same_get A B k i h (by omega), same_get A B k (i + 1) h (by omega)]
theorem same_mid (A B : List Nat) (k j m : Nat) (h : A.take k = B.take k) (hi : j + m ≤ k) : (A.drop j).take m = (B.drop j).take m := by
  have e : ∀ Z : List Nat, (Z.drop j).take m = ((Z.take k).drop j).take m := fun Z => by
    rw [List.drop_take, List.take_take, Nat.min_eq_left (by omega)]
  rw [e A, e B, h]
structure SameHead (v : Bool) (Z Y : List Nat) : Prop where
  r : fhr v Y = 0
  s : fS v Y = fS v Z
  l : fL v Y = fL v Z
  p : fP v Y = fP v Z
  a : lA v Y = lA v Z
  b : lB v Y = lB v Z
theorem same_head (v : Bool) (Z Y : List Nat) (h : fhr v Z = 0) (hl : fL v Z ≤ Y.length) (ht : Y.take (fS v Z) = Z.take (fS v Z)) : SameHead v Z Y := by
  have hH := fhd_yes v Z h
  have h1 := hH.low
  have h2 := hH.mid
  have h3 := hH.high
  cases v with
  | true =>
    have ht : Y.take 40 = Z.take 40 := ht
    have h : f6 Z = 0 := h
    have hl : 40 + u2 Z 4 ≤ Y.length := hl
    obtain ⟨q1, q2, q3, q4⟩ := f6_yes Z h
    have g0 := same_get Y Z 40 0 ht (by omega)
    have g6 := same_get Y Z 40 6 ht (by omega)
    have g4 := same_u2 Y Z 40 4 ht (by omega)
    refine ⟨?_, rfl, ?_, g6, same_mid Y Z 40 8 16 ht (by omega), same_mid Y Z 40 24 16 ht (by omega)⟩
    · show f6 Y = 0
      unfold f6
      rw [g0, g6, g4, if_neg (by omega), if_neg (by omega), if_neg (by omega), if_neg (by omega), if_neg (by omega)]
    · show 40 + u2 Y 4 = 40 + u2 Z 4
      rw [g4]
  | false =>
    have ht : Y.take (hs Z) = Z.take (hs Z) := ht
    have h : ff Z = 0 := h
    have hl : u2 Z 2 ≤ Y.length := hl
    obtain ⟨h20, h4, hs20, hsl, hlz, hck, hfr, hp⟩ := ff_yes Z h
    have g0 := same_get Y Z _ 0 ht (by omega)
    have g9 := same_get Y Z _ 9 ht (by omega)
    have g2 := same_u2 Y Z _ 2 ht (by omega)
    have g6 := same_u2 Y Z _ 6 ht (by omega)
    have e : hs Y = hs Z := by unfold hs; rw [g0]
    have m1 := same_mid Y Z _ 12 4 ht (by omega)
    have m2 := same_mid Y Z _ 16 4 ht (by omega)
    refine ⟨?_, e, g2, g9, ?_, ?_⟩
    · show ff Y = 0
      unfold ff
      rw [e, ht, g0, g2, g6, g9, if_neg (by omega), if_neg (by omega), if_neg (by omega), if_neg (by omega), if_neg (by omega), if_neg (by omega)]
    · show (Y.drop 12).take 4 ++ _ = (Z.drop 12).take 4 ++ _
      rw [m1]
    · show (Y.drop 16).take 4 ++ _ = (Z.drop 16).take 4 ++ _
      rw [m2]
def dsX (v : Bool) (T D : List Nat) : List Nat := if v then dst6 T D else dst4 T (D.take 4)
theorem vld_cut (D : List Nat) (hD : D.length = 16) (h : vldA false D = true) : D.take 4 ++ List.replicate 12 0 = D := by
  have hv := (vldA_spec.1 h).resolve_left (by decide)
  refine ext_getD _ _ 0 (by simp [hD]) fun i hi => ?_
  have hi : i < 16 := by simp [hD] at hi; omega
  have h4 : (D.take 4).length = 4 := by simp [hD]
  by_cases h1 : i < 4
  · rw [getDl _ _ _ (by omega), getD_take _ _ _ h1]
  · rw [getDr _ _ _ (by omega), hv i (by omega) hi, List.getD_eq_getElem?_getD, List.getElem?_replicate]
    split <;> rfl
structure Gone4 (v : Bool) (T D : List Nat) : Prop where
  len : (dsX v T D).length = T.length
  drop : ∀ k, fS v T ≤ k → (dsX v T D).drop k = T.drop k
  head : fhr v (dsX v T D) = 0
  s : fS v (dsX v T D) = fS v T
  l : fL v (dsX v T D) = fL v T
  p : fP v (dsX v T D) = fP v T
  a : lA v (dsX v T D) = lA v T
  b : lB v (dsX v T D) = D
  get : ∀ i, ¬ (v = false ∧ (i = 10 ∨ i = 11 ∨ 16 ≤ i ∧ i < 20)) → ¬ (v = true ∧ 24 ≤ i ∧ i < 40) → (dsX v T D).getD i 0 = T.getD i 0
theorem gone4 (v : Bool) (T D : List Nat) (hb : ∀ c ∈ T, c < 256) (h : fhr v T = 0) (hD : D.length = 16) (hv : vldA v D = true) : Gone4 v T D := by
  cases v with
  | true =>
    have h : f6 T = 0 := h
    obtain ⟨q1, q2, q3, q4⟩ := f6_yes T h
    have hk : 24 + D.length ≤ T.length := by omega
    have hlen : (dst6 T D).length = T.length := ov_length _ _ _ hk
    have hget : ∀ i, ¬ (24 ≤ i ∧ i < 40) → (dst6 T D).getD i 0 = T.getD i 0 := fun i hi => ov_get_off _ _ _ _ hk (by omega)
    have ht : (dst6 T D).take 24 = T.take 24 := ov_take_off _ _ _ _ (Nat.le_refl _) hk
    have g0 := hget 0 (by omega)
    have g6 := hget 6 (by omega)
    have g4 : u2 (dst6 T D) 4 = u2 T 4 := by unfold u2; rw [hget 4 (by omega), hget 5 (by omega)]
    refine ⟨hlen, fun k hk2 => ov_drop_off _ _ _ _ (by have : 40 ≤ k := hk2; omega) hk, ?_, rfl, ?_, g6, ?_, ?_, fun i _ h2 => hget i (fun x => h2 ⟨rfl, x⟩)⟩
    · show f6 (dst6 T D) = 0
      unfold f6
      rw [g0, g6, g4, if_neg (by omega), if_neg (by omega), if_neg (by omega), if_neg (by omega), if_neg (by omega)]
    · show 40 + u2 (dst6 T D) 4 = 40 + u2 T 4
      rw [g4]
    · exact same_mid _ _ 24 8 16 ht (by omega)
    · show ((dst6 T D).drop 24).take 16 = D
      have := ov_mid T D 24 hk
      rwa [hD] at this
  | false =>
    have h : ff T = 0 := h
    have ht : (D.take 4).length = 4 := by simp [hD]
    have g0 := dst_get h ht 0 (by omega)
    have e2 : u2 (dst4 T (D.take 4)) 2 = u2 T 2 := by unfold u2; rw [dst_get h ht 2 (by omega), dst_get h ht 3 (by omega)]
    have es : hs (dst4 T (D.take 4)) = hs T := by unfold hs; rw [g0]
    have h20 := (ff_yes T h).2.2.1
    refine ⟨dst_length h ht, fun k hk => dst_drop h ht k (by have : hs T ≤ k := hk; omega), dst_ff h ht hb, es, e2, dst_get h ht 9 (by omega), ?_, ?_, fun i h1 _ => dst_get h ht i (by
      have h1 : ¬ (i = 10 ∨ i = 11 ∨ 16 ≤ i ∧ i < 20) := fun x => h1 ⟨rfl, x⟩
      omega)⟩
    · show ((dst4 T (D.take 4)).drop 12).take 4 ++ List.replicate (16 - (((dst4 T (D.take 4)).drop 12).take 4).length) 0 = (T.drop 12).take 4 ++ _
      rw [dst_src h ht]
    · show ((dst4 T (D.take 4)).drop 16).take 4 ++ List.replicate (16 - (((dst4 T (D.take 4)).drop 16).take 4).length) 0 = D
      rw [dst_dst h ht, ht]; exact vld_cut D hD hv
theorem dsX_cut (v : Bool) (T D : List Nat) (L : Nat) (h : fhr v T = 0) (hD : D.length = 16) (hL : fL v T ≤ L) (hL2 : L ≤ T.length) : (dsX v (T.take L) D).take (fS v T) = (dsX v T D).take (fS v T) := by
  have hH := fhd_yes v T h
  have h2 := hH.mid
  have key : dsX v (T.take L) D = (dsX v T D).take L := by
    cases v with
    | true =>
      have q1 : 40 ≤ fL true T := h2
      exact (ov_take T D 24 L (by omega) hL2).symm
    | false =>
      have h : ff T = 0 := h
      have h20 := (ff_yes T h).2.2.1
      have hss : hs T ≤ fL false T := h2
      have ht : (D.take 4).length = 4 := by simp [hD]
      show dst4 (T.take L) (D.take 4) = (dst4 T (D.take 4)).take L
      unfold dst4
      rw [u2_take T L 10 (by omega), List.drop_take, List.take_take, Nat.min_eq_left (by omega)]
      rw [ov_take _ _ _ _ (by omega) (by rw [ov_length _ _ _ (by rw [bg_length]; omega)]; exact hL2), ov_take _ _ _ _ (by rw [bg_length]; omega) hL2]
  rw [key, List.take_take, Nat.min_eq_left (by omega)]
def nN (zs : List Nat) : Nat := (net zs).1
def nS (zs : List Nat) : Nat := (net zs).1 + fS (sixF zs) (pkt zs)
def nE (zs : List Nat) : Nat := (net zs).1 + fL (sixF zs) (pkt zs)
def pt9 (zs : List Nat) (tp : Nat) : Nat := if tp = 0 then u2 (sgm zs) 2 else tp
def sg9 (zs D : List Nat) (tp : Nat) : List Nat := prt (fP (sixF zs) (pkt zs)) (sgm zs) (pt9 zs tp) (sixF zs) (lB (sixF zs) (pkt zs)) D
def to9 (zs D : List Nat) (tp : Nat) : List Nat := zs.take (nN zs) ++ ((dsX (sixF zs) (pkt zs) D).take (fS (sixF zs) (pkt zs)) ++ (sg9 zs D tp ++ zs.drop (nE zs)))
def ok9 (zs : List Nat) (v : Bool) (D : List Nat) : Bool := decide (rr zs = 0) && ((v == sixF zs) && vldA v D)
structure Frame9 (zs : List Nat) : Prop where
  net0 : (net zs).2.2 = 0
  n0 : (net zs).1 = 14 ∨ (net zs).1 = 18
  nl : (net zs).1 ≤ zs.length
  hr : fhr (sixF zs) (pkt zs) = 0
  hd0 : Head (sixF zs) (pkt zs)
  pl : (pkt zs).length = zs.length - (net zs).1
  fs0 : fs (fP (sixF zs) (pkt zs)) (sgm zs) = 0
  sl : (sgm zs).length = fL (sixF zs) (pkt zs) - fS (sixF zs) (pkt zs)
  eL : nE zs ≤ zs.length
  sE : nS zs ≤ nE zs
  cut : zs = zs.take (nN zs) ++ ((pkt zs).take (fS (sixF zs) (pkt zs)) ++ (sgm zs ++ zs.drop (nE zs)))
theorem frame9 (zs : List Nat) (h : rr zs = 0) : Frame9 zs := by
  obtain ⟨h1, h2, h3⟩ := rr_yes zs h
  obtain ⟨hn, hnl, -⟩ := net_ok zs h1
  have hH := fhd_yes _ _ h2
  have q1 := hH.mid
  have q2 := hH.high
  have pl : (pkt zs).length = zs.length - (net zs).1 := by simp [pkt]
  have hE : nE zs ≤ zs.length := by unfold nE; omega
  refine ⟨h1, hn, hnl, h2, hH, pl, h3, ?_, hE, by unfold nS nE; omega, ?_⟩
  · unfold sgm
    rw [List.length_take, List.length_drop]; omega
  · have e1 : zs = zs.take (nN zs) ++ pkt zs := (List.take_append_drop (nN zs) zs).symm
    have e2 : pkt zs = (pkt zs).take (fS (sixF zs) (pkt zs)) ++ (pkt zs).drop (fS (sixF zs) (pkt zs)) := (List.take_append_drop _ _).symm
    have e3 : (pkt zs).drop (fS (sixF zs) (pkt zs)) = sgm zs ++ zs.drop (nE zs) := by
      have e4 : (pkt zs).drop (fS (sixF zs) (pkt zs)) = zs.drop (nS zs) := by
        show (zs.drop (net zs).1).drop (fS (sixF zs) (pkt zs)) = zs.drop ((net zs).1 + fS (sixF zs) (pkt zs))
        rw [List.drop_drop]
      have e5 : sgm zs = (zs.drop (nS zs)).take (fL (sixF zs) (pkt zs) - fS (sixF zs) (pkt zs)) := rfl
      have e6 : zs.drop (nE zs) = (zs.drop (nS zs)).drop (fL (sixF zs) (pkt zs) - fS (sixF zs) (pkt zs)) := by
        rw [List.drop_drop]; congr 1; unfold nS nE; omega
      rw [e4, e5, e6, List.take_append_drop]
    rw [← e3, ← e2, ← e1]
theorem sgm_lt (zs : List Nat) (hb : ∀ c ∈ zs, c < 256) : ∀ c ∈ sgm zs, c < 256 := fun c hc => hb c (List.mem_of_mem_drop (List.mem_of_mem_take hc))
theorem pkt_lt (zs : List Nat) (hb : ∀ c ∈ zs, c < 256) : ∀ c ∈ pkt zs, c < 256 := fun c hc => hb c (List.mem_of_mem_drop hc)
theorem pt9_lt (zs : List Nat) (tp : Nat) (hb : ∀ c ∈ zs, c < 256) (h : tp < 65536) : pt9 zs tp < 65536 := by
  unfold pt9; split
  · exact u2_lt _ 2 (sgm_lt zs hb)
  · exact h
theorem sg9_ported (zs D : List Nat) (tp : Nat) (hb : ∀ c ∈ zs, c < 256) (h : rr zs = 0) (hD : D.length = 16) (ht : tp < 65536) :
    Ported (fP (sixF zs) (pkt zs)) (sgm zs) (pt9 zs tp) (sixF zs) (lB (sixF zs) (pkt zs)) D := by
  have hF := frame9 zs h
  exact ported _ _ _ _ _ _ (sgm_lt zs hb) hF.fs0 (pt9_lt zs tp hb ht) (lB_len _ _ hF.hr) hD (lB_lt _ _ (pkt_lt zs hb))
theorem to9_ov (zs D : List Nat) (tp : Nat) (hb : ∀ c ∈ zs, c < 256) (h : rr zs = 0) (hD : D.length = 16) (hv : vldA (sixF zs) D = true) (ht : tp < 65536) :
    ov (zs.take (nN zs) ++ dsX (sixF zs) (pkt zs) D) (sg9 zs D tp) (nS zs) = to9 zs D tp := by
  have hF := frame9 zs h
  have hP := sg9_ported zs D tp hb h hD ht
  have hG := gone4 (sixF zs) (pkt zs) D (pkt_lt zs hb) hF.hr hD hv
  have q1 := hF.hd0.mid
  have q2 := hF.hd0.high
  have hsl : (sg9 zs D tp).length = fL (sixF zs) (pkt zs) - fS (sixF zs) (pkt zs) := hP.len.trans hF.sl
  have hnl : (zs.take (nN zs)).length = nN zs := by rw [List.length_take]; exact Nat.min_eq_left hF.nl
  unfold ov to9
  have e1 : (zs.take (nN zs) ++ dsX (sixF zs) (pkt zs) D).take (nS zs) = zs.take (nN zs) ++ (dsX (sixF zs) (pkt zs) D).take (fS (sixF zs) (pkt zs)) := by
    rw [List.take_append, List.take_of_length_le (by rw [hnl]; unfold nS nN; omega), hnl]
    congr 2
    unfold nS nN; omega
  have e2 : (zs.take (nN zs) ++ dsX (sixF zs) (pkt zs) D).drop (nS zs + (sg9 zs D tp).length) = zs.drop (nE zs) := by
    rw [List.drop_append, List.drop_eq_nil_of_le (by rw [hnl]; unfold nS nN; omega), List.nil_append, hnl, hsl, hG.drop _ (by unfold nS nN; omega)]
    show (zs.drop (net zs).1).drop _ = zs.drop ((net zs).1 + fL (sixF zs) (pkt zs))
    rw [List.drop_drop]; congr 1
    show (net zs).1 + (((net zs).1 + fS (sixF zs) (pkt zs)) + (fL (sixF zs) (pkt zs) - fS (sixF zs) (pkt zs)) - (net zs).1) = _
    omega
  rw [e1, e2, List.append_assoc]
end Go.Proofs.Ythionipmohbnhaa
namespace Go.Proofs.Ythionipmohbnhaa
open Go.RowKit
theorem fB_cells (v : Bool) (T : List Nat) : fB v T = cellsA v (lB v T) := Value.agg.inj (lB_eq v T)
end Go.Proofs.Ythionipmohbnhaa
namespace Go.Proofs.Ythionipmohbnhaa
open Go.RowKit
set_option maxRecDepth 100000 in
set_option maxHeartbeats 800000 in
theorem net_any (v : Value) (zs : List Nat) (w : World) (hr : Rd w v (nus .u8 zs)) (hb : ∀ c ∈ zs, c < 256) :
    Calls Try.prog 38 #[v] w fun e w' => e = .returned (.tuple #[.int .i64 ((net zs).1 : Nat), .int .u16 ((net zs).2.1 : Nat), .int .i64 ((net zs).2.2 : Nat)]) ∧ w = w' := by
  have HR := Lib.hid hr
  have HB := Lib.hid hb
  obtain ⟨a, cap, rfl, hlc, hl, -⟩ := hr
  rw [nus_length] at hlc HR ⊢
  have hk1 := u2_lt zs 12 hb
  have hk2 := u2_lt zs 16 hb
  clear hb
  have hlm : zs.length ≤ maxLen := Nat.le_trans hlc hl
  clear hl hlc
  by_cases h14 : zs.length < 14
  · rw [net_short zs h14]
    go_enter Try.func38, Try.ntmps38
    go_wp2_with fail
    refine (get16_no _ _ _ 12 _ hlm (.inr (by omega))).mono ?_; rintro e w' ⟨rfl, rfl⟩
    go_wp2
    go_ret3
    exact ⟨rfl, rfl⟩
  · have hk := be_u2 zs 12 (by omega)
    by_cases hv : u2 zs 12 = 33024
    · by_cases h18 : zs.length < 18
      · rw [net_cut zs h14 hv h18]
        go_enter Try.func38, Try.ntmps38
        go_wp2_with fail
        refine (get16_yes _ 12 zs _ HR.out HB.out (by omega)).mono ?_; rintro e w' ⟨rfl, rfl⟩
        rw [hk, hv]
        go_wp2_with fail
        refine (get16_no _ _ _ 16 _ hlm (.inr (by omega))).mono ?_; rintro e w' ⟨rfl, rfl⟩
        go_wp2
        go_ret3
        exact ⟨rfl, rfl⟩
      · have hl := be_u2 zs 16 (by omega)
        rw [net_tag zs h14 hv h18]
        obtain ⟨kd, hK⟩ : ∃ kd, kd = u2 zs 16 := ⟨_, rfl⟩
        rw [← hK] at hl hk2 ⊢
        clear hK
        go_enter Try.func38, Try.ntmps38
        go_wp2_with fail
        refine (get16_yes _ 12 zs _ HR.out HB.out (by omega)).mono ?_; rintro e w' ⟨rfl, rfl⟩
        rw [hk, hv]
        go_wp2_with fail
        refine (get16_yes _ 16 zs _ HR.out HB.out (by omega)).mono ?_; rintro e w' ⟨rfl, rfl⟩
        rw [hl]
        clear hk hl hv hk1
        by_cases h1 : kd = 2048
        · subst h1
          go_wp2
          go_ret3
          exact ⟨rfl, rfl⟩
        · by_cases h2 : kd = 34525
          · subst h2
            go_wp2
            go_ret3
            exact ⟨rfl, rfl⟩
          · have en := Lib.hid (netK_no 18 kd h1 h2)
            have g1 : ((kd : Int) != 2048) = true := by simp; omega
            have g2 : ((kd : Int) != 34525) = true := by simp; omega
            clear h1 h2
            go_wp2
            go_ret3
            exact ⟨by rw [en.out]; rfl, rfl⟩
    · rw [net_bare zs h14 hv]
      obtain ⟨kd, hK⟩ : ∃ k, k = u2 zs 12 := ⟨_, rfl⟩
      rw [← hK] at hk hk1 hv ⊢
      clear hK
      go_enter Try.func38, Try.ntmps38
      go_wp2_with fail
      refine (get16_yes _ 12 zs _ HR.out HB.out (by omega)).mono ?_; rintro e w' ⟨rfl, rfl⟩
      rw [hk]
      clear hk hk2
      have g0 : ((kd : Int) == 33024) = false := by simp; omega
      clear hv
      by_cases h1 : kd = 2048
      · subst h1
        go_wp2
        go_ret3
        exact ⟨rfl, rfl⟩
      · by_cases h2 : kd = 34525
        · subst h2
          go_wp2
          go_ret3
          exact ⟨rfl, rfl⟩
        · have en := Lib.hid (netK_no 14 kd h1 h2)
          have g1 : ((kd : Int) != 2048) = true := by simp; omega
          have g2 : ((kd : Int) != 34525) = true := by simp; omega
          clear h1 h2
          go_wp2
          go_ret3
          exact ⟨by rw [en.out]; rfl, rfl⟩
set_option maxRecDepth 100000 in
set_option maxHeartbeats 400000 in
theorem check_any (va : Value) (zs : List Nat) (w : World) (hr : Rd w va (nus .u8 zs)) (hz : zs.length ≤ 140737488351232) (hb : ∀ c ∈ zs, c < 256) :
    Calls Try.prog 72 #[va] w fun e w' => e = .returned (.int .u16 (ck zs : Nat)) ∧ Below w.heap.size w w' := by
  have h2 := Lib.hid (not_gr (wsp 0 zs))
  go_enter Try.func72, Try.ntmps72
  go_wp2_with fail
  refine (sum_any va zs 0 w hr hz hb (by omega)).mono ?_
  rintro e w' ⟨rfl, hb⟩
  rw [Nat.zero_add]
  go_wp2
  go_ret
  exact ⟨ret_int h2.out, hb⟩
set_option maxRecDepth 100000 in
set_option maxHeartbeats 2000000 in
theorem from_ok (va : Value) (v : Bool) (bs : List Nat) (w : World) (hr : Rd w va (nus .u8 bs)) (h : bs.length = 4 ∧ v = false ∨ bs.length = 16 ∧ v = true) :
    Calls Try.prog 79 #[va] w fun e w' => e = .returned (.tuple #[adr v (bs ++ List.replicate (16 - bs.length) 0), .int .i64 0]) ∧ Below w.heap.size w w' := by
  obtain ⟨a, cap, rfl, hlc, hc⟩ := rd_shape hr
  have hr1 := hr.below ((((Below.refl w.heap.size w).alloc (Nat.le_refl _) (.cells (cellsA false (List.replicate 16 0)) 25)).alloc (by simp) (.cells (cellsA v (List.replicate 16 0)) 25)))
  obtain ⟨b0, o0, rfl, hcell0⟩ := hr1.cells (by omega)
  clear hr hr1
  rcases h with ⟨h4, rfl⟩ | ⟨h16, rfl⟩
  · have d4 : (((4 : Nat) : Int) != 4) = false := by rfl
    have hcell := hcell0
    obtain ⟨cs, hcs⟩ : ∃ cs, cs = cellsA false (bs ++ List.replicate (16 - bs.length) 0) := ⟨_, rfl⟩
    have hz : cs.size = 17 := by rw [hcs, cellsA_size, List.length_append, List.length_replicate]; omega
    have HZ := Lib.hid (i24.trans (congrArg some hz.symm))
    have HZ2 := Lib.hid (hz.trans (cellsA_size false (List.replicate 16 0)).symm)
    have HAll := Lib.hid (show cs.all (·.oneCell') = true by rw [hcs]; exact cellsA_all _ _)
    have HSP := Lib.hid ((splice_at false bs (by omega)).trans hcs.symm)
    have HC := Lib.hid hcs
    have HL := Lib.hid h4
    have HO := Lib.hid ((Blk.new w 25 (cellsA false (List.replicate 16 0))).alloc (.cells (cellsA false (List.replicate 16 0)) 25))
    have HN := Lib.hid (show Blk ((w.alloc (.cells (cellsA false (List.replicate 16 0)) 25)).alloc (.cells (cellsA false (List.replicate 16 0)) 25)) (w.heap.size + 1) 25 (cellsA false (List.replicate 16 0)) by
      have := Blk.new (w.alloc (.cells (cellsA false (List.replicate 16 0)) 25)) 25 (cellsA false (List.replicate 16 0)); rw [World.size_alloc] at this; exact this)
    have HCE := Lib.hid hcell
    have HB := Lib.hid ((((Below.refl w.heap.size w).alloc (Nat.le_refl _) (.cells (cellsA false (List.replicate 16 0)) 25)).alloc (by simp) (.cells (cellsA false (List.replicate 16 0)) 25)))
    clear hcell hcell0 hz hcs
    rw [HL.out]
    clear d4
    have d4 : (((4 : Int)) != 4) = false := by rfl
    clear d4
    go_enter Try.func79, Try.ntmps79
    go_wp2_with ((with_reducible refine wpList_copy_splice (o := ⟨some 21, _, _, _, _, _⟩) rfl (.tmp 19) (.tmp 20) 22 22 rfl 5 Try.underlying22 info5_size _ _ _ _ _ _ rfl rfl (w.heap.size + 1) 1 (cellsA false (List.replicate 16 0)).toList 25 ?cg4 (nus .u8 bs) ?cn4 ?cp4 ?cf4 ?co4 (w.heap.size + 1) _ (Below.refl _ _) (Nat.le_refl _) ?_))
    case cg4 => rw [Array.toArray_toList]; exact HN.out
    case cn4 => rw [nus_length, HL.out]; rfl
    case cp4 =>
      intro _ j u hj
      have hjl : j < bs.length := by have := (List.getElem?_eq_some_iff.1 hj).1; rwa [nus_length] at this
      rw [nus_get _ _ _ hjl] at hj
      cases hj
      exact HCE.out j hjl
    case cf4 => rw [nus_length, HL.out]; decide
    case co4 => exact oneCell_nus _ _
    intro W2 hg2 hb2
    have h2 : W2.heap[w.heap.size + 1]? = some (.cells (splice (cellsA false (List.replicate 16 0)).toList 1 (nus .u8 bs)).toArray 25 (0, 0)) := hg2.out
    rw [HSP.out] at h2
    have HW2 := Lib.hid (show Blk W2 (w.heap.size + 1) 25 cs from h2)
    have HO2 := Lib.hid (show Blk W2 w.heap.size 25 (cellsA false (List.replicate 16 0)) from (hb2.block _ (Nat.lt_succ_self _)).trans HO.out)
    have HB2 := Lib.hid (HB.out.trans (hb2.mono (Nat.le_succ _)))
    clear h2 hg2 hb2
    go_wp2_with (first
      | ((with_reducible refine wpList_blk_load (op := ⟨some 22, .load 25 (.tmp 4), _, _, _, _⟩) ?lg1 25 (.tmp 4) ?lo1 (w.heap.size + 1) ?lx1 _ HW2.out Try.underlying25 ?ld1 HZ.out ?_); (case lg1 => rfl); (case lo1 => rfl); (case lx1 => rfl); (case ld1 => rfl))
      | ((with_reducible refine wpList_blk_store (op := ⟨none, .store 25 (.tmp 2) (.tmp 22), _, _, _, _⟩) ?sg1 25 (.tmp 2) (.tmp 22) ?so1 w.heap.size cs ?sx1 ?sy1 HO2.out HZ2.out HZ.out HAll.out ?_); (case sg1 => rfl); (case so1 => rfl); (case sx1 => rfl); (case sy1 => rfl)))
    intro w3 hA hF hB
    have HF := Lib.hid hF
    have HA := Lib.hid hA
    clear hF hA
    go_wp2
    have hrun := run_blk_load (P := Try.prog) 25 w.heap.size _ HA.out Try.underlying25 rfl HZ.out
    refine bodyPost_ret (results_cell_tmp 2 25 3 w.heap.size _ Try.results79 rfl hrun) rfl ⟨?_, HB2.out.trans (hB _ (Nat.le_refl _))⟩
    rw [HC.out, HL.out]
    rfl
  · have d4 : (((16 : Nat) : Int) != 4) = true := by rfl
    have hcell := hcell0
    obtain ⟨cs, hcs⟩ : ∃ cs, cs = cellsA true (bs ++ List.replicate (16 - bs.length) 0) := ⟨_, rfl⟩
    have hz : cs.size = 17 := by rw [hcs, cellsA_size, List.length_append, List.length_replicate]; omega
    have HZ := Lib.hid (i24.trans (congrArg some hz.symm))
    have HZ2 := Lib.hid (hz.trans (cellsA_size false (List.replicate 16 0)).symm)
    have HAll := Lib.hid (show cs.all (·.oneCell') = true by rw [hcs]; exact cellsA_all _ _)
    have HSP := Lib.hid ((splice_at true bs (by omega)).trans hcs.symm)
    have HC := Lib.hid hcs
    have HL := Lib.hid h16
    have HO := Lib.hid ((Blk.new w 25 (cellsA false (List.replicate 16 0))).alloc (.cells (cellsA true (List.replicate 16 0)) 25))
    have HN := Lib.hid (show Blk ((w.alloc (.cells (cellsA false (List.replicate 16 0)) 25)).alloc (.cells (cellsA true (List.replicate 16 0)) 25)) (w.heap.size + 1) 25 (cellsA true (List.replicate 16 0)) by
      have := Blk.new (w.alloc (.cells (cellsA false (List.replicate 16 0)) 25)) 25 (cellsA true (List.replicate 16 0)); rw [World.size_alloc] at this; exact this)
    have HCE := Lib.hid hcell
    have HB := Lib.hid ((((Below.refl w.heap.size w).alloc (Nat.le_refl _) (.cells (cellsA false (List.replicate 16 0)) 25)).alloc (by simp) (.cells (cellsA true (List.replicate 16 0)) 25)))
    clear hcell hcell0 hz hcs
    rw [HL.out]
    clear d4
    have d4 : (((4 : Int)) != 4) = false := by rfl
    clear d4
    go_enter Try.func79, Try.ntmps79
    go_wp2_with ((with_reducible refine wpList_copy_splice (o := ⟨some 21, _, _, _, _, _⟩) rfl (.tmp 19) (.tmp 20) 22 22 rfl 5 Try.underlying22 info5_size _ _ _ _ _ _ rfl rfl (w.heap.size + 1) 1 (cellsA true (List.replicate 16 0)).toList 25 ?cg16 (nus .u8 bs) ?cn16 ?cp16 ?cf16 ?co16 (w.heap.size + 1) _ (Below.refl _ _) (Nat.le_refl _) ?_))
    case cg16 => rw [Array.toArray_toList]; exact HN.out
    case cn16 => rw [nus_length, HL.out]; rfl
    case cp16 =>
      intro _ j u hj
      have hjl : j < bs.length := by have := (List.getElem?_eq_some_iff.1 hj).1; rwa [nus_length] at this
      rw [nus_get _ _ _ hjl] at hj
      cases hj
      exact HCE.out j hjl
    case cf16 => rw [nus_length, HL.out]; decide
    case co16 => exact oneCell_nus _ _
    intro W2 hg2 hb2
    have h2 : W2.heap[w.heap.size + 1]? = some (.cells (splice (cellsA true (List.replicate 16 0)).toList 1 (nus .u8 bs)).toArray 25 (0, 0)) := hg2.out
    rw [HSP.out] at h2
    have HW2 := Lib.hid (show Blk W2 (w.heap.size + 1) 25 cs from h2)
    have HO2 := Lib.hid (show Blk W2 w.heap.size 25 (cellsA false (List.replicate 16 0)) from (hb2.block _ (Nat.lt_succ_self _)).trans HO.out)
    have HB2 := Lib.hid (HB.out.trans (hb2.mono (Nat.le_succ _)))
    clear h2 hg2 hb2
    go_wp2_with (first
      | ((with_reducible refine wpList_blk_load (op := ⟨some 22, .load 25 (.tmp 4), _, _, _, _⟩) ?lg2 25 (.tmp 4) ?lo2 (w.heap.size + 1) ?lx2 _ HW2.out Try.underlying25 ?ld2 HZ.out ?_); (case lg2 => rfl); (case lo2 => rfl); (case lx2 => rfl); (case ld2 => rfl))
      | ((with_reducible refine wpList_blk_store (op := ⟨none, .store 25 (.tmp 2) (.tmp 22), _, _, _, _⟩) ?sg2 25 (.tmp 2) (.tmp 22) ?so2 w.heap.size cs ?sx2 ?sy2 HO2.out HZ2.out HZ.out HAll.out ?_); (case sg2 => rfl); (case so2 => rfl); (case sx2 => rfl); (case sy2 => rfl)))
    intro w3 hA hF hB
    have HF := Lib.hid hF
    have HA := Lib.hid hA
    clear hF hA
    go_wp2
    have hrun := run_blk_load (P := Try.prog) 25 w.heap.size _ HA.out Try.underlying25 rfl HZ.out
    refine bodyPost_ret (results_cell_tmp 2 25 3 w.heap.size _ Try.results79 rfl hrun) rfl ⟨?_, HB2.out.trans (hB _ (Nat.le_refl _))⟩
    rw [HC.out, HL.out]
    rfl
end Go.Proofs.Ythionipmohbnhaa
namespace Go.Proofs.Ythionipmohbnhaa
open Go.RowKit
set_option maxRecDepth 100000 in
set_option maxHeartbeats 400000 in
theorem word4_any (v : Value) (k : Nat) (zs : List Nat) (w : World) (hr : Rd w v (nus .u8 zs)) (hb : ∀ c ∈ zs, c < 256) (hk : k + 2 ≤ zs.length) :
    Calls Try.prog 60 #[v, .int .i64 (k : Int)] w fun e w' => e = .returned (.int .u16 (u2 zs k : Nat)) ∧ w = w' := by
  have H := Lib.hid (get16_yes v k zs w hr hb hk)
  have HE := Lib.hid (be_u2 zs k hk)
  clear hr hb hk
  go_enter Try.func60, Try.ntmps60
  go_wp2_with fail
  refine H.out.mono ?_; rintro e w' ⟨rfl, rfl⟩
  rw [HE.out]
  go_wp2
  go_ret
  exact ⟨rfl, rfl⟩
set_option maxRecDepth 100000 in
set_option maxHeartbeats 400000 in
theorem sizeOf_any (v : Value) (zs : List Nat) (w : World) (hr : Rd w v (nus .u8 zs)) (hb : ∀ c ∈ zs, c < 256) (h0 : 0 < zs.length) :
    Calls Try.prog 71 #[v] w fun e w' => e = .returned (.int .i64 (hs zs : Nat)) ∧ w = w' := by
  obtain ⟨a, cap, rfl, h1, h2⟩ := rd_shape hr
  obtain ⟨b, off, rfl, hc⟩ := hr.cells h0
  have c0 := hc 0 h0
  have hx := getD_lt zs hb 0
  have hl := Lib.hid (low4 _ hx)
  have hH := Lib.hid (show (4 * (zs.getD 0 0 % 16) : Nat) = hs zs from rfl)
  unfold maxLen at h2
  obtain ⟨len, hle⟩ : ∃ n, n = zs.length := ⟨_, rfl⟩
  rw [← hle] at h0 h1 ⊢
  generalize zs.getD 0 0 = x at *
  rw [Nat.add_zero] at c0
  clear hc hr hb hle
  have hl' := hl.out
  go_enter Try.func71, Try.ntmps71
  go_wp2
  go_ret
  exact ⟨ret_int (by rw [← hH.out]; go_num), rfl⟩
set_option maxRecDepth 100000 in
set_option maxHeartbeats 1000000 in
theorem fault4_any (v : Value) (zs : List Nat) (w : World) (hr : Rd w v (nus .u8 zs)) (hb : ∀ c ∈ zs, c < 256) :
    Calls Try.prog 57 #[v] w fun e w' => e = .returned (.int .i64 (ff zs : Nat)) ∧ Below w.heap.size w w' := by
  obtain ⟨a, cap, rfl, h1, h2⟩ := rd_shape hr
  by_cases h20 : zs.length < 20
  · have hf : ff zs = 1 := by unfold ff; rw [if_pos h20]
    rw [hf]
    unfold maxLen at h2
    clear hr hb hf
    go_enter Try.func57, Try.ntmps57
    go_wp2
    go_ret
    exact ⟨rfl, Below.refl _ _⟩
  obtain ⟨b, off, rfl, hc⟩ := hr.cells (by omega)
  have c0 := hc 0 (by omega)
  have c9 := hc 9 (by omega)
  obtain ⟨va, hva⟩ : ∃ va, va = Value.slice (some ⟨b, off, none⟩) zs.length cap := ⟨_, rfl⟩
  have SZ := Lib.hid (sizeOf_any va zs w (hva ▸ hr) hb (by omega))
  have W2 := Lib.hid (fun w' (h : Rd w' va (nus .u8 zs)) => word4_any va 2 zs w' h hb (by omega))
  have W6 := Lib.hid (fun w' (h : Rd w' va (nus .u8 zs)) => word4_any va 6 zs w' h hb (by omega))
  have HR := Lib.hid (show Rd w va (nus .u8 zs) from hva ▸ hr)
  rw [hva] at SZ W2 W6 HR
  have hx := getD_lt zs hb 0
  have hp := getD_lt zs hb 9
  have hl := u2_lt zs 2 hb
  have hg := u2_lt zs 6 hb
  have hs4 := hs_lt zs
  have HL := Lib.hid (low14 _ hg)
  have HC := Lib.hid (fun w' h => check_any (.slice (some ⟨b, off, none⟩) (hs zs) cap) (zs.take (hs zs)) w' h (by simp; omega) (fun c hc => hb c (List.mem_of_mem_take hc)))
  have hck := ck_le (zs.take (hs zs))
  have HFr := Lib.hid (fun w' (h : Rd w' (.slice (some ⟨b, off, none⟩) zs.length cap) (nus .u8 zs)) => h.front (hs zs))
  unfold maxLen at h2
  rw [Nat.add_zero] at c0
  clear hc hr hb hva va
  obtain ⟨F, hFe⟩ : ∃ F, F = ff zs := ⟨_, rfl⟩
  rw [show (Calls Try.prog 57 #[.slice (some ⟨b, off, none⟩) zs.length cap] w fun e w' => e = .returned (.int .i64 (ff zs : Nat)) ∧ Below w.heap.size w w') = _ from by rw [← hFe]]
  unfold ff at hFe
  have HF := Lib.hid hFe
  clear hFe
  generalize zs.getD 0 0 = x at *
  generalize zs.getD 9 0 = p at *
  generalize hs zs = s at *
  generalize u2 zs 2 = l at *
  generalize u2 zs 6 = g at *
  generalize ck (zs.take s) = q at *
  generalize zs.take s = T at *
  generalize zs.length = n at *
  go_enter Try.func57, Try.ntmps57
  go_wp2_with fail
  refine SZ.out.mono ?_; rintro e w' ⟨rfl, rfl⟩
  go_wp2_with fail
  refine (W2.out _ HR.out).mono ?_; rintro e w' ⟨rfl, rfl⟩
  clear SZ W2
  by_cases h4 : x / 16 = 4
  case neg =>
    have hf : F = 3 := by rw [HF.out, if_neg h20, if_pos (.inl h4)]
    have g4 : ((x : Int) / 16 != 4) = true := by rw [bne_iff_ne]; omega
    subst hf
    clear h4
    go_wp2
    go_ret
    exact ⟨rfl, Below.refl _ _⟩
  have g4 : ((x : Int) / 16 != 4) = false := by rw [bne_eq_false_iff_eq]; omega
  by_cases hs20 : s < 20
  · have hf : F = 3 := by rw [HF.out, if_neg h20, if_pos (.inr (.inl hs20))]
    subst hf
    clear h4
    go_wp2
    go_ret
    exact ⟨rfl, Below.refl _ _⟩
  by_cases hls : l < s
  · have hf : F = 3 := by rw [HF.out, if_neg h20, if_pos (.inr (.inr hls))]
    subst hf
    clear h4
    go_wp2
    go_ret
    exact ⟨rfl, Below.refl _ _⟩
  have HF2 := Lib.hid (HF.out.trans ((if_neg h20).trans (if_neg (by omega))))
  clear HF
  by_cases hnl : n < l
  · have hf : F = 1 := by rw [HF2.out, if_pos hnl]
    subst hf
    clear h4
    go_wp2
    go_ret
    exact ⟨rfl, Below.refl _ _⟩
  have HF := Lib.hid (HF2.out.trans (if_neg hnl))
  have HS := Lib.hid (HFr.out w HR.out (by omega))
  clear HF2 h4 HFr
  go_wp2_with fail
  refine (HC.out _ HS.out).mono ?_; rintro e w1 ⟨rfl, b1⟩
  have B1 := Lib.hid b1
  have R1 := Lib.hid (HR.out.below b1)
  clear b1 HC HS HR
  by_cases hq : q = 0
  case neg =>
    have hf : F = 4 := by rw [HF.out, if_pos hq]
    have gq : ((q : Int) != 0) = true := by rw [bne_iff_ne]; omega
    subst hf
    clear hq
    go_wp2
    go_ret
    exact ⟨rfl, B1.out⟩
  have HF2 := Lib.hid (HF.out.trans (if_neg (by omega)))
  subst hq
  clear HF
  go_wp2_with fail
  refine (W6.out _ R1.out).mono ?_; rintro e w' ⟨rfl, rfl⟩
  have hl14 := HL.out
  by_cases hg0 : g % 16384 = 0
  case neg =>
    have hf : F = 5 := by rw [HF2.out, if_pos hg0]
    have gq : (((g % 16384 : Nat) : Int) != 0) = true := by rw [bne_iff_ne]; omega
    subst hf
    clear hg0
    go_wp2
    go_ret
    exact ⟨rfl, B1.out⟩
  have HF := Lib.hid (HF2.out.trans (if_neg (by omega)))
  have gq : (((g % 16384 : Nat) : Int) != 0) = false := by rw [bne_eq_false_iff_eq]; omega
  have hb0 : b < w.heap.size := by
    rcases Nat.lt_or_ge b w.heap.size with h | h
    · exact h
    · simp [World.cell?, Array.getElem?_eq_none h] at c0
  have c9' := (B1.out.cell (p := ⟨b, off + 9, none⟩) hb0).trans c9
  clear HF2 hg0 c0 c9
  by_cases hp6 : p = 6
  · have hf : F = 0 := by rw [HF.out, if_neg (by omega)]
    subst hf hp6
    go_wp2
    go_ret
    exact ⟨rfl, B1.out⟩
  by_cases hp17 : p = 17
  · have hf : F = 0 := by rw [HF.out, if_neg (by omega)]
    subst hf hp17
    go_wp2
    go_ret
    exact ⟨rfl, B1.out⟩
  have hf : F = 6 := by rw [HF.out, if_pos ⟨hp6, hp17⟩]
  have g6 : ((p : Int) != 6) = true := by rw [bne_iff_ne]; omega
  have g17 : ((p : Int) != 17) = true := by rw [bne_iff_ne]; omega
  subst hf
  clear hp6 hp17
  go_wp2
  go_ret
  exact ⟨rfl, B1.out⟩
end Go.Proofs.Ythionipmohbnhaa
namespace Go.Proofs.Ythionipmohbnhaa
open Go.RowKit
set_option maxRecDepth 100000 in
theorem built_head (s l p : Nat) (S D : Array Value) (hS : S.size = 17) (hD : D.size = 17) : Try.prog.built 110 [(0, .int .i64 (s : Int)), (1, .int .i64 (l : Int)), (2, .int .u8 (p : Int)), (3, .agg S), (4, .agg D)] = some (hcells s l p S D) := by
  obtain ⟨x0, x1, x2, x3, x4, x5, x6, x7, x8, x9, x10, x11, x12, x13, x14, x15, x16, rfl⟩ := arr17 S hS
  obtain ⟨y0, y1, y2, y3, y4, y5, y6, y7, y8, y9, y10, y11, y12, y13, y14, y15, y16, rfl⟩ := arr17 D hD
  kernel_rfl
set_option maxRecDepth 100000 in
theorem i29 : (Try.prog.info? 110).map (·.size) = some 37 := by kernel_rfl
set_option maxRecDepth 100000 in
set_option maxHeartbeats 1000000 in
theorem read4_no (v : Value) (zs : List Nat) (w : World) (hr : Rd w v (nus .u8 zs)) (hb : ∀ c ∈ zs, c < 256) (h : ff zs ≠ 0) :
    Calls Try.prog 69 #[v] w fun e w' => e = .returned (.tuple #[.agg h0, .int .i64 (ff zs : Nat)]) ∧ Below w.heap.size w w' := by
  have B0 := (Below.refl w.heap.size w).alloc (Nat.le_refl _) (.cells h0 110)
  have HF := Lib.hid (fault4_any v zs _ (hr.below B0) hb)
  have hlt := ff_lt zs
  have HN := Lib.hid (Blk.new w 110 h0)
  have HB := Lib.hid B0
  obtain ⟨a, cap, rfl, -, -⟩ := rd_shape hr
  obtain ⟨r, hre⟩ : ∃ r, r = ff zs := ⟨_, rfl⟩
  rw [← hre] at HF h hlt ⊢
  generalize zs.length = n at *
  clear hr hb hre B0
  go_enter Try.func69, Try.ntmps69
  go_wp2_with fail
  refine HF.out.mono ?_; rintro e W1 ⟨rfl, hb⟩
  have HN1 := Lib.hid (HN.out.below hb HN.out.lt)
  have HB1 := Lib.hid (HB.out.trans (hb.mono HB.out.size))
  clear hb HN HB HF
  have g0 : ((r : Int) != 0) = true := by simp; omega
  clear h
  have Z := Lib.hid (i29.trans (congrArg some h0_size.symm))
  have A := Lib.hid h0_all
  go_wp2_with ((refine wpList_blk_store (op := ⟨none, .store 110 (.tmp 2) (.tmp 13), _, _, _, _⟩) rfl 110 (.tmp 2) (.tmp 13) rfl w.heap.size h0 (by rfl) (by rfl) HN1.out rfl Z.out A.out ?_))
  intro W2 hA hF hB
  have HB2 := Lib.hid (HB1.out.trans (hB _ (Nat.le_refl _)))
  have HA := Lib.hid hA
  clear hA hF hB
  go_wp2
  have hrun := run_blk_load (P := Try.prog) 110 w.heap.size _ HA.out Try.underlying110 rfl Z.out
  exact bodyPost_ret (results_cell_tmp 2 110 3 w.heap.size _ Try.results69 rfl hrun) rfl ⟨rfl, HB2.out⟩
set_option maxRecDepth 100000 in
set_option maxHeartbeats 1000000 in
theorem read4_yes (v : Value) (zs : List Nat) (w : World) (hr : Rd w v (nus .u8 zs)) (hb : ∀ c ∈ zs, c < 256) (h : ff zs = 0) :
    Calls Try.prog 69 #[v] w fun e w' => e = .returned (.tuple #[.agg (hd zs), .int .i64 0]) ∧ Below w.heap.size w w' := by
  obtain ⟨h20, -, -, -, -, -, -, -⟩ := ff_yes zs h
  have B0 := (Below.refl w.heap.size w).alloc (Nat.le_refl _) (.cells h0 110)
  have HF := Lib.hid (fault4_any v zs _ (hr.below B0) hb)
  rw [h] at HF
  have HN := Lib.hid (Blk.new w 110 h0)
  have HB := Lib.hid B0
  have HR := Lib.hid hr
  obtain ⟨a, cap, rfl, h1, h2⟩ := rd_shape hr
  obtain ⟨b, off, rfl, hc⟩ := hr.cells (by omega)
  obtain ⟨S, hS⟩ : ∃ S, S = a4 ((zs.drop 12).take 4) := ⟨_, rfl⟩
  obtain ⟨D, hD⟩ : ∃ D, D = a4 ((zs.drop 16).take 4) := ⟨_, rfl⟩
  have l1 : ((zs.drop 12).take 4).length = 4 := by simp; omega
  have l2 : ((zs.drop 16).take 4).length = 4 := by simp; omega
  have C1 := Lib.hid (fun w' (hw : Rd w' (.slice (some ⟨b, off + 12, none⟩) 4 (cap - 12)) (nus .u8 ((zs.drop 12).take 4))) => from_ok _ false ((zs.drop 12).take 4) w' hw (.inl ⟨l1, rfl⟩))
  have C2 := Lib.hid (fun w' (hw : Rd w' (.slice (some ⟨b, off + 16, none⟩) 4 (cap - 16)) (nus .u8 ((zs.drop 16).take 4))) => from_ok _ false ((zs.drop 16).take 4) w' hw (.inl ⟨l2, rfl⟩))
  have R1 := Lib.hid (hr.sub 12 4 (by omega))
  have R2 := Lib.hid (hr.sub 16 4 (by omega))
  rw [show adr false ((zs.drop 12).take 4 ++ List.replicate (16 - ((zs.drop 12).take 4).length) 0) = .agg S from by rw [hS]; rfl] at C1
  rw [show adr false ((zs.drop 16).take 4 ++ List.replicate (16 - ((zs.drop 16).take 4).length) 0) = .agg D from by rw [hD]; rfl] at C2
  have hsS := a4_size ((zs.drop 12).take 4) (by omega)
  have hsD := a4_size ((zs.drop 16).take 4) (by omega)
  have haS := a4_all ((zs.drop 12).take 4)
  have haD := a4_all ((zs.drop 16).take 4)
  have hh : hd zs = hcells (hs zs) (u2 zs 2) (zs.getD 9 0) S D := by unfold hd; rw [if_pos h, hS, hD]
  rw [← hS] at hsS haS
  rw [← hD] at hsD haD
  have c9 := hc 9 (by omega)
  unfold maxLen at h2
  clear hc l1 l2 hS hD B0
  generalize (zs.drop 12).take 4 = Sb at *
  generalize (zs.drop 16).take 4 = Db at *
  have HSS := Lib.hid (i24.trans (congrArg some hsS.symm))
  have HSD := Lib.hid (i24.trans (congrArg some hsD.symm))
  have HAS := Lib.hid haS
  have HAD := Lib.hid haD
  have HZS := Lib.hid (hsS.trans (cellsA_size false (List.replicate 16 0)).symm)
  have HZD := Lib.hid (hsD.trans (cellsA_size false (List.replicate 16 0)).symm)
  have CS := Lib.hid (fun W (hw : Rd W (.slice (some ⟨b, off, none⟩) zs.length cap) (nus .u8 zs)) => sizeOf_any _ zs W hw hb (by omega))
  have CW := Lib.hid (fun W (hw : Rd W (.slice (some ⟨b, off, none⟩) zs.length cap) (nus .u8 zs)) => word4_any _ 2 zs W hw hb (by omega))
  have hbuild := built_head (hs zs) (u2 zs 2) (zs.getD 9 0) S D hsS hsD
  have HBD := Lib.hid hbuild
  have hcs := hcells_size (hs zs) (u2 zs 2) (zs.getD 9 0) S D hsS hsD
  have hca := hcells_all (hs zs) (u2 zs 2) (zs.getD 9 0) S D haS haD
  rw [hh]
  have hl := u2_lt zs 2 hb
  have hs4 := hs_lt zs
  clear hbuild hh hb h hr
  generalize hs zs = s at *
  generalize u2 zs 2 = l at *
  generalize zs.getD 9 0 = p at *
  generalize zs.length = n at *
  obtain ⟨hc, hhc⟩ : ∃ x, x = hcells s l p S D := ⟨_, rfl⟩
  rw [← hhc] at HBD hcs hca ⊢
  have Z := Lib.hid (i29.trans (congrArg some hcs.symm))
  have Z0 := Lib.hid (hcs.trans h0_size.symm)
  have AC := Lib.hid hca
  have h9n : (9 : Int) < (n : Int) := by omega
  have hlw : IntKind.i64.wrap (l : Int) = (l : Int) := by rw [IntKind.wrap_i64]; omega
  clear hcs hca hhc hsS hsD haS haD
  go_enter Try.func69, Try.ntmps69
  go_wp2_with fail
  refine HF.out.mono ?_; rintro e W1 ⟨rfl, hb1⟩
  have HN1 := Lib.hid (HN.out.below hb1 HN.out.lt)
  have HB1 := Lib.hid (HB.out.trans (hb1.mono HB.out.size))
  clear hb1 HN HB HF
  go_wp2_with fail
  refine (C1.out _ (R1.out.below HB1.out)).mono ?_; rintro e W2 ⟨rfl, hb1⟩
  have K1 := Lib.hid (HB1.out.trans (hb1.mono HB1.out.size))
  have N1 := Lib.hid (HN1.out.below hb1 HN1.out.lt)
  clear hb1 HN1 HB1
  go_wp2_with ((refine wpList_blk_store (op := ⟨none, .store 25 (.tmp 5) (.tmp 19), _, _, _, _⟩) rfl 25 (.tmp 5) (.tmp 19) rfl W2.heap.size S (by rfl) (by rfl) (Blk.new W2 25 (cellsA false (List.replicate 16 0))) HZS.out HSS.out HAS.out ?_))
  intro W3 hA hF hB
  have K2 := Lib.hid ((K1.out.alloc K1.out.size (.cells (cellsA false (List.replicate 16 0)) 25)).trans (hB _ K1.out.size))
  have N2 := Lib.hid ((N1.out.alloc (.cells (cellsA false (List.replicate 16 0)) 25)).below (hB _ (Nat.le_refl _)) N1.out.lt)
  have A2 := Lib.hid hA
  clear hA hF hB K1 N1
  go_wp2_with fail
  refine (C2.out _ (R2.out.below K2.out)).mono ?_; rintro e W4 ⟨rfl, hb1⟩
  have K3 := Lib.hid (K2.out.trans (hb1.mono K2.out.size))
  have N3 := Lib.hid (N2.out.below hb1 N2.out.lt)
  have A3 := Lib.hid (A2.out.below hb1 A2.out.lt)
  clear hb1 K2 N2 A2 C1 C2 R1 R2
  go_wp2_with ((refine wpList_blk_store (op := ⟨none, .store 25 (.tmp 7) (.tmp 25), _, _, _, _⟩) rfl 25 (.tmp 7) (.tmp 25) rfl W4.heap.size D (by rfl) (by rfl) (Blk.new W4 25 (cellsA false (List.replicate 16 0))) HZD.out HSD.out HAD.out ?_))
  intro W5 hA hF hB
  have K4 := Lib.hid ((K3.out.alloc K3.out.size (.cells (cellsA false (List.replicate 16 0)) 25)).trans (hB _ K3.out.size))
  have N4 := Lib.hid ((N3.out.alloc (.cells (cellsA false (List.replicate 16 0)) 25)).below (hB _ (Nat.le_refl _)) N3.out.lt)
  have A4 := Lib.hid ((A3.out.alloc (.cells (cellsA false (List.replicate 16 0)) 25)).below (hB _ (Nat.le_refl _)) A3.out.lt)
  have D4 := Lib.hid hA
  clear hA hF hB K3 N3 A3
  go_wp2_with fail
  refine wp_region_still_tail 11 (by kernel_rfl) (by kernel_rfl) ?_
  change wpStill _ _ W5.drew (fun a' => wpList _ _ _ _ a' W5.drew) _ _
  have K5 := Lib.hid K4.out.drew
  have N5 := Lib.hid N4.out.drew
  have A5 := Lib.hid A4.out.drew
  have D5 := Lib.hid D4.out.drew
  generalize W5.drew = W6 at K5 N5 A5 D5 ⊢
  clear K4 N4 A4 D4
  have hb0 : b < w.heap.size := by
    rcases Nat.lt_or_ge b w.heap.size with h | h
    · exact h
    · simp [World.cell?, Array.getElem?_eq_none h] at c9
  have c9' := (K5.out.cell (p := ⟨b, off + 9, none⟩) hb0).trans c9
  have hA := run_blk_load (P := Try.prog) 25 W2.heap.size _ A5.out Try.underlying25 rfl HSS.out
  have hD := run_blk_load (P := Try.prog) 25 W4.heap.size _ D5.out Try.underlying25 rfl HSD.out
  have HA := Lib.hid hA
  have HD := Lib.hid hD
  clear hA hD
  simp only [List.take_succ_cons, List.take_zero, List.drop_succ_cons, List.drop_zero]
  still_step
  still_call ((CS.out _ (HR.out.below K5.out)).mono fun e w' h => ⟨h.1, h.2.symm⟩)
  still_step
  still_call ((CW.out _ (HR.out.below K5.out)).mono fun e w' h => ⟨h.1, h.2.symm⟩)
  still_step
  still_step
  still_step
  still_step
  refine wpStill_step (fun K hK => ?_)
  rw [if_pos (by rfl)]
  refine still_load 25 (.tmp 5) rfl _ rfl (.agg S) HA.out (hK _ ?_)
  clear hK K
  refine wpStill_step (fun K hK => ?_)
  rw [if_pos (by rfl)]
  refine still_load 25 (.tmp 7) rfl _ rfl (.agg D) HD.out (hK _ ?_)
  clear hK K
  refine wpStill_step (fun K hK => ?_)
  rw [if_pos (by rfl)]
  refine still_build2 110 _ rfl #[(0, .int .i64 (s : Int)), (1, .int .i64 (l : Int)), (2, .int .u8 (p : Int)), (3, .agg S), (4, .agg D)] (by kernel_rfl) hc HBD.out (hK _ ?_)
  clear hK K
  refine wpStill_nil ?_
  simp only [Act.put, tS1, tS2, tS3]
  go_wp2_with ((refine wpList_blk_store (op := ⟨none, .store 110 (.tmp 2) (.tmp 37), _, _, _, _⟩) rfl 110 (.tmp 2) (.tmp 37) rfl w.heap.size hc (by rfl) (by rfl) N5.out Z0.out Z.out AC.out ?_))
  intro W7 hA hF hB
  have K7 := Lib.hid (K5.out.trans (hB _ (Nat.le_refl _)))
  have HA := Lib.hid hA
  clear hA hF hB
  go_wp2
  have hrun := run_blk_load (P := Try.prog) 110 w.heap.size _ HA.out Try.underlying110 rfl Z.out
  exact bodyPost_ret (results_cell_tmp 2 110 3 w.heap.size _ Try.results69 rfl hrun) rfl ⟨rfl, K7.out⟩
set_option maxRecDepth 100000 in
theorem read4_any (v : Value) (zs : List Nat) (w : World) (hr : Rd w v (nus .u8 zs)) (hb : ∀ c ∈ zs, c < 256) :
    Calls Try.prog 69 #[v] w fun e w' => e = .returned (.tuple #[.agg (hd zs), .int .i64 (ff zs : Nat)]) ∧ Below w.heap.size w w' := by
  by_cases h : ff zs = 0
  · have := read4_yes v zs w hr hb h
    rw [h]; exact this
  · have := read4_no v zs w hr hb h
    have e : hd zs = h0 := by unfold hd; rw [if_neg h]
    rw [e]; exact this
end Go.Proofs.Ythionipmohbnhaa
