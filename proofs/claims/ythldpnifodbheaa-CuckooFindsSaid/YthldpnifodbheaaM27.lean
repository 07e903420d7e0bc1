/- Texts that the walks of this seat lean on, put together. -/
import Derived.StillTailTactics
import Derived.Deep.CutBlock
import Derived.Deep.DeepCutAuto
import Derived.LoopTactic
import Derived.Handy
import Derived.Test.YthldpnifodbheaaTk
import Derived.Test.YthldpnifodbheaaTl
import Derived.Test.YthldpnifodbheaaM10
import Derived.Test.YthldpnifodbheaaM17
import Derived.Test.YthldpnifodbheaaM21
import Derived.Test.YthldpnifodbheaaM22
import Derived.Test.YthldpnifodbheaaM25
namespace Go.Proofs.Ythldpnifodbheaa
open Go.RowKit Go.Lib
set_option maxRecDepth 100000 in
theorem known_eq (n : Nat) : (((n : Int) % 4).toNat) = n % 4 := by omega
set_option maxRecDepth 100000 in
set_option maxHeartbeats 4000000 in
theorem rhash_any (c : Cf) (hc : c.Fit) (n : Nat) (hn : n ≤ 1000) (k : Fl) (hk : k.Fit) (w : World) :
    Calls Try.prog 37 #[.agg c.cs, .int .i64 (n : Int), .agg k.cs] w fun e w' => e = .returned (.int .u32 ((hsh c n k : Nat) : Int)) ∧ Below w.heap.size w w' := by
  have K := lh (Below.refl w.heap.size w)
  have CK := lh (fun W => rknown_any (n : Int) W)
  rw [known_eq] at CK
  have CB := lh (fun W => rbytes_any k hk W)
  have hkn := (knownC_hi (n % 4) (by omega)).2
  have CC := lh (fun v W h => crc_any (knownC.getD (n % 4) 0) (sdN c.sd n) hkn (sdN_lt _ _) v (bK k) (bK_lt k hk) W h)
  have CM := lh (fun W => rmix_any _ (crcC_lt (knownC.getD (n % 4) 0) (sdN c.sd n) (bK k) hkn (sdN_lt _ _) (bK_lt k hk)) W)
  have hR : hsh c n k = mixN (crcC (knownC.getD (n % 4) 0) (sdN c.sd n) (bK k)) := rfl
  rw [hR]
  have hsd := hc.sd
  obtain ⟨q, hq⟩ : ∃ q, q = 7919 * n := ⟨_, rfl⟩
  have m1 : IntKind.i64.wrap (7919 * (n : Int)) = (q : Int) := by rw [IntKind.wrap_i64]; omega
  have w2 : IntKind.u32.wrap (q : Int) = (q : Int) := by rw [IntKind.wrap_u32]; omega
  have w3 : IntKind.u32.wrap ((c.sd : Int) + (q : Int)) = ((sdN c.sd n : Nat) : Int) := by rw [IntKind.wrap_u32]; unfold sdN; omega
  generalize mixN (crcC (knownC.getD (n % 4) 0) (sdN c.sd n) (bK k)) = R at *
  generalize crcC (knownC.getD (n % 4) 0) (sdN c.sd n) (bK k) = C at *
  generalize knownC.getD (n % 4) 0 = kn at *
  generalize sdN c.sd n = sn at *
  obtain ⟨b0, b1, b2, b3, b4, b5, b6, b7, b8, b9, b10, b11, b12, b13, b14, b15⟩ := cf_get c hc
  have Q0 := lh b0
  have Q1 := lh b1
  have Q2 := lh b2
  have Q3 := lh b3
  have Q4 := lh b4
  have Q5 := lh b5
  have Q6 := lh b6
  have Q7 := lh b7
  have Q8 := lh b8
  have Q9 := lh b9
  have Q10 := lh b10
  have Q11 := lh b11
  have Q12 := lh b12
  have Q13 := lh b13
  have Q14 := lh b14
  have Q15 := lh b15
  clear b0 b1 b2 b3 b4 b5 b6 b7 b8 b9 b10 b11 b12 b13 b14 b15
  have CP1 := lh (cf_own c)
  have CP2 := lh (cf_own6 c hc)
  have CI1 := lh (cf_io c hc)
  have CI2 := lh (cf_ix c hc)
  have IC := lh (cf_ic c hc)
  obtain ⟨a0, a1, a18, a35, a36⟩ := fl_get k hk
  have G0 := lh a0
  have G1 := lh a1
  have G18 := lh a18
  have G35 := lh a35
  have G36 := lh a36
  have KP1 := lh (fl_src k)
  have KP2 := lh (fl_dst k hk)
  have IS := lh (fl_is k hk)
  have ID := lh (fl_id k hk)
  have IK := lh (fl_ik k hk)
  clear a0 a1 a18 a35 a36
  generalize bK k = bs at *
  generalize k.cs = kc at *
  generalize cellsA k.sv k.S = S at *
  generalize cellsA k.dv k.D = D at *
  generalize k.p = p at *
  generalize k.sv = sv at *
  generalize k.dv = dv at *
  generalize k.sp = sp at *
  generalize k.dp = dp at *
  generalize c.cs = cc at *
  generalize cellsA c.ov c.O = SO at *
  generalize cellsA c.xv c.X = SX at *
  generalize c.st = st at *
  generalize c.sz = sz at *
  generalize c.dg = dg at *
  generalize c.bl = bl at *
  generalize c.hs = hs at *
  generalize c.sl = sl at *
  generalize c.vs = vs at *
  generalize c.qu = qu at *
  generalize c.ev = ev at *
  generalize c.id = id at *
  generalize c.li = li at *
  generalize c.fa = fa at *
  generalize c.en = en at *
  generalize c.ov = ov at *
  generalize c.xv = xv at *
  generalize c.sd = sd at *
  clear hkn hR hsd hq hn hc hk
  go_enter Try.func37, Try.ntmps37
  have hal := (Below.refl w.heap.size w).alloc (Nat.le_refl _) (.cells cc 29)
  replace K := lh (K.out.trans (hal.mono K.out.size))
  have M := lh (Blk.new w 29 cc)
  clear hal
  have hal := (Below.refl (w.alloc (.cells cc 29)).heap.size (w.alloc (.cells cc 29))).alloc (Nat.le_refl _) (.cells kc 42)
  replace K := lh (K.out.trans (hal.mono K.out.size))
  replace M := lh (M.out.below hal M.out.lt)
  have Nq := Blk.new (w.alloc (.cells cc 29)) 42 kc
  simp only [World.size_alloc] at Nq
  have N := lh Nq
  clear Nq
  clear hal
  go_wp2_with fail
  have hzV1 : Hid (((w.alloc (.cells cc 29)).alloc (.cells kc 42)).heap.size = w.heap.size + 1 + 1) := by show _ = _; simp only [World.size_alloc]
  generalize ((w.alloc (.cells cc 29)).alloc (.cells kc 42)) = V1 at *
  refine wp_region_held (S := (fun w' : World => Below (V1.heap.size) V1 w')) (by kernel_rfl) ?_
  change wpAnyH _ _ _ _ _ _ _ _ V1.drew
  have hy : Below V1.heap.size V1 V1.drew := (Below.refl _ _).drew
  have hE0 : Below (V1.heap.size) V1 V1.drew := (Below.refl _ _).drew
  clear hy
  generalize V1.drew = Y1x0 at hE0  ⊢
  have E0 := lh hE0
  clear hE0
  refine tkA 0 (?_) ?_ E0.out ?_
  rotate_left
  · (intro w1 hS; go_simp; try with_reducible rfl)
  simp only [Act.put, tS1, tS2, tS3]
  refine tkA 2 (?_) ?_ E0.out ?_
  rotate_left
  · (intro w1 hS; go_simp; try with_reducible rfl)
  simp only [Act.put, tS1, tS2, tS3]
  refine tkA 3 (?_) ?_ E0.out ?_
  rotate_left
  · (intro w1 hS; have hW := hS; have q := ((M.out.below hW M.out.lt).cell 47).trans Q15.out; clear hW hS; go_simp; try with_reducible rfl)
  simp only [Act.put, tS1, tS2, tS3]
  refine tkA 4 (?_) ?_ E0.out ?_
  rotate_left
  · (intro w1 hS; go_simp; try with_reducible rfl)
  simp only [Act.put, tS1, tS2, tS3]
  refine tkA 5 (?_) ?_ E0.out ?_
  rotate_left
  · (intro w1 hS; go_simp; try with_reducible rfl)
  simp only [Act.put, tS1, tS2, tS3]
  refine tkA 6 (?_) ?_ E0.out ?_
  rotate_left
  · (intro w1 hS; go_simp; try with_reducible rfl)
  simp only [Act.put, tS1, tS2, tS3]
  refine tkA 7 (?_) ?_ E0.out ?_
  rotate_left
  · (intro w1 hS; go_simp; try with_reducible rfl)
  simp only [Act.put, tS1, tS2, tS3]
  refine tkA 8 (.agg kc) ?_ E0.out ?_
  · (intro w1 hS; have hW := hS; exact exec_load 42 (.tmp 5) rfl _ rfl _ (run_blk_load (P := Try.prog) 42 (w.heap.size + 1) _ (N.out.below hW N.out.lt) Try.underlying42 rfl IK.out))
  simp only [Act.put, tS1, tS2, tS3]
  refine tkO 1 (fun KK hK => ?_)
  go_simp
  refine (CK.out Y1x0).mono ?_
  rintro e Y1x1 ⟨rfl, hy⟩
  have E1 := lh (E0.out.trans (hy.mono E0.out.size))
  have C1 := lh E1.out
  clear hy E0
  refine hK.out _ _ C1.out (fun _ => ?_)
  clear hK KK
  refine wpAnyH_mono (S' := (fun w' : World => Below Y1x1.heap.size Y1x1 w')) (fun w1 h => C1.out.trans (h.mono C1.out.size)) _ _ _ _ ?_
  clear C1
  try simp only [Act.put, tS1, tS2, tS3]
  refine tkO 9 (fun KK hK => ?_)
  go_simp
  refine (CB.out Y1x1).mono ?_
  rintro e Y1x2 ⟨x, rfl, hx, hy⟩
  have E2 := lh (E1.out.trans (hy.mono E1.out.size))
  have C2 := lh hy
  have X := lh (hx)
  clear hx
  clear hy E1
  refine hK.out _ _ C2.out (fun _ => ?_)
  clear hK KK
  refine wpAnyH_mono (S' := (fun w' : World => Below Y1x2.heap.size Y1x2 w')) (fun w1 h => C2.out.trans (h.mono C2.out.size)) _ _ _ _ ?_
  clear C2
  try simp only [Act.put, tS1, tS2, tS3]
  refine tkO 10 (fun KK hK => ?_)
  go_simp
  refine (same_below (CC.out x Y1x2 X.out)).mono ?_
  rintro e Y1x3 ⟨rfl, hy⟩
  replace X := lh (X.out.below hy)
  have E3 := lh (E2.out.trans (hy.mono E2.out.size))
  have C3 := lh hy
  clear hy E2
  refine hK.out _ _ C3.out (fun _ => ?_)
  clear hK KK
  refine wpAnyH_mono (S' := (fun w' : World => Below Y1x3.heap.size Y1x3 w')) (fun w1 h => C3.out.trans (h.mono C3.out.size)) _ _ _ _ ?_
  clear C3
  try simp only [Act.put, tS1, tS2, tS3]
  refine tkO 11 (fun KK hK => ?_)
  go_simp
  refine (same_below (CM.out Y1x3)).mono ?_
  rintro e Y1x4 ⟨rfl, hy⟩
  replace X := lh (X.out.below hy)
  have E4 := lh (E3.out.trans (hy.mono E3.out.size))
  have C4 := lh hy
  clear hy E3
  refine hK.out _ _ C4.out (fun _ => ?_)
  clear hK KK
  refine wpAnyH_mono (S' := (fun w' : World => Below Y1x4.heap.size Y1x4 w')) (fun w1 h => C4.out.trans (h.mono C4.out.size)) _ _ _ _ ?_
  clear C4
  try simp only [Act.put, tS1, tS2, tS3]
  refine tkA 12 (?_) ?_ (Below.refl _ _) ?_
  rotate_left
  · (intro w1 hS; go_simp; try with_reducible rfl)
  simp only [Act.put, tS1, tS2, tS3]
  refine wpAnyH_done (by kernel_rfl) ?_ _
  have hy := E4.out
  replace K := lh (K.out.trans (hy.mono K.out.size))
  replace M := lh (M.out.below hy M.out.lt)
  replace N := lh (N.out.below hy N.out.lt)
  clear hy E4
  go_wp2
  go_ret
  exact ⟨rfl, K.out⟩
set_option maxRecDepth 100000 in
set_option maxHeartbeats 4000000 in
theorem rplace_any (c : Cf) (hc : c.Fit) (hok : okC c = true) (n : Nat) (hn : n ≤ 1000) (k : Fl) (hk : k.Fit) (w : World) :
    Calls Try.prog 18 #[.agg c.cs, .agg k.cs, .int .i64 (n : Int)] w fun e w' => e = .returned (.agg #[.int .i64 (n : Int), .int .i64 ((plN c k n : Nat) : Int)]) ∧ Below w.heap.size w w' := by
  have K := lh (Below.refl w.heap.size w)
  have CH := lh (fun W => rhash_any c hc n hn k hk W)
  obtain ⟨b3, b4⟩ := okC_sz hok
  obtain ⟨m, hm⟩ : ∃ m : Nat, c.sz = (m : Int) := ⟨c.sz.toNat, by omega⟩
  have hr : plN c k n = hsh c n k % m := by unfold plN; rw [hm, Int.toNat_natCast]
  rw [hr]
  have hl := hsh_lt c n k
  generalize hsh c n k = H at *
  have w4 : IntKind.i64.wrap (H : Int) = (H : Int) := by rw [IntKind.wrap_i64]; omega
  have h0 : ((m : Int) == 0) = false := by rw [beq_eq_false_iff_ne]; omega
  have h1 : (m : Int) ≠ 0 := by omega
  have h2 : ¬ m = 0 := by omega
  have tm : (H : Int).tmod (m : Int) = ((H % m : Nat) : Int) := by rw [Int.tmod_eq_emod_of_nonneg (by omega)]; exact (Int.natCast_emod H m).symm
  have hrl : H % m < 1024 := Nat.lt_of_lt_of_le (Nat.mod_lt _ (by omega)) (by omega)
  generalize H % m = r at *
  have w5 : IntKind.i64.wrap (r : Int) = (r : Int) := by rw [IntKind.wrap_i64]; omega
  have RZ : Hid ((Try.prog.info? 51).map (·.size) = some (#[.int .i64 (n : Int), .int .i64 (r : Int)] : Array Value).size) := i41
  have RA : Hid ((#[.int .i64 (n : Int), .int .i64 (r : Int)] : Array Value).all (·.oneCell') = true) := by show _ = true; simp [Value.oneCell']
  have RY : Hid ((#[.int .i64 (n : Int), .int .i64 (r : Int)] : Array Value).size = (#[.int .i64 0, .int .i64 0] : Array Value).size) := rfl
  obtain ⟨b0, b1, b2, b3, b4, b5, b6, b7, b8, b9, b10, b11, b12, b13, b14, b15⟩ := cf_get c hc
  have Q0 := lh b0
  have Q1 := lh b1
  have Q2 := lh b2
  have Q3 := lh b3
  have Q4 := lh b4
  have Q5 := lh b5
  have Q6 := lh b6
  have Q7 := lh b7
  have Q8 := lh b8
  have Q9 := lh b9
  have Q10 := lh b10
  have Q11 := lh b11
  have Q12 := lh b12
  have Q13 := lh b13
  have Q14 := lh b14
  have Q15 := lh b15
  clear b0 b1 b2 b3 b4 b5 b6 b7 b8 b9 b10 b11 b12 b13 b14 b15
  have CP1 := lh (cf_own c)
  have CP2 := lh (cf_own6 c hc)
  have CI1 := lh (cf_io c hc)
  have CI2 := lh (cf_ix c hc)
  have IC := lh (cf_ic c hc)
  rw [hm] at Q1
  obtain ⟨a0, a1, a18, a35, a36⟩ := fl_get k hk
  have G0 := lh a0
  have G1 := lh a1
  have G18 := lh a18
  have G35 := lh a35
  have G36 := lh a36
  have KP1 := lh (fl_src k)
  have KP2 := lh (fl_dst k hk)
  have IS := lh (fl_is k hk)
  have ID := lh (fl_id k hk)
  have IK := lh (fl_ik k hk)
  clear a0 a1 a18 a35 a36
  generalize k.cs = kc at *
  generalize cellsA k.sv k.S = S at *
  generalize cellsA k.dv k.D = D at *
  generalize k.p = p at *
  generalize k.sv = sv at *
  generalize k.dv = dv at *
  generalize k.sp = sp at *
  generalize k.dp = dp at *
  generalize c.cs = cc at *
  generalize cellsA c.ov c.O = SO at *
  generalize cellsA c.xv c.X = SX at *
  clear hc hk hok b3 b4 hm hr hl hn hrl
  go_enter Try.func18, Try.ntmps18
  have hal := (Below.refl w.heap.size w).alloc (Nat.le_refl _) (.cells cc 29)
  replace K := lh (K.out.trans (hal.mono K.out.size))
  have M := lh (Blk.new w 29 cc)
  clear hal
  have hal := (Below.refl (w.alloc (.cells cc 29)).heap.size (w.alloc (.cells cc 29))).alloc (Nat.le_refl _) (.cells kc 42)
  replace K := lh (K.out.trans (hal.mono K.out.size))
  replace M := lh (M.out.below hal M.out.lt)
  have Nq := Blk.new (w.alloc (.cells cc 29)) 42 kc
  simp only [World.size_alloc] at Nq
  have N := lh Nq
  clear Nq
  clear hal
  have hal := (Below.refl ((w.alloc (.cells cc 29)).alloc (.cells kc 42)).heap.size ((w.alloc (.cells cc 29)).alloc (.cells kc 42))).alloc (Nat.le_refl _) (.cells #[.int .i64 0, .int .i64 0] 51)
  replace K := lh (K.out.trans (hal.mono K.out.size))
  replace M := lh (M.out.below hal M.out.lt)
  replace N := lh (N.out.below hal N.out.lt)
  have Pq := Blk.new ((w.alloc (.cells cc 29)).alloc (.cells kc 42)) 51 #[.int .i64 0, .int .i64 0]
  simp only [World.size_alloc] at Pq
  have P := lh Pq
  clear Pq
  clear hal
  go_wp2_with fail
  have hzV1 : Hid ((((w.alloc (.cells cc 29)).alloc (.cells kc 42)).alloc (.cells #[.int .i64 0, .int .i64 0] 51)).heap.size = w.heap.size + 1 + 1 + 1) := by show _ = _; simp only [World.size_alloc]
  generalize (((w.alloc (.cells cc 29)).alloc (.cells kc 42)).alloc (.cells #[.int .i64 0, .int .i64 0] 51)) = V1 at *
  have hlow : w.heap.size + 2 ≤ V1.heap.size := by have := P.out.lt; omega
  have gP : w.heap.size + 2 ≤ w.heap.size + 2 := Nat.le_refl _
  go_wp2_with fail
  refine wp_region_held (S := (fun w' : World => Below (w.heap.size + 2) V1 w')) (by kernel_rfl) ?_
  change wpAnyH _ _ _ _ _ _ _ _ V1.drew
  have hy : Below V1.heap.size V1 V1.drew := (Below.refl _ _).drew
  have hE0 : Below (w.heap.size + 2) V1 V1.drew := (Below.refl _ _).drew
  replace P := lh (P.out.below hy P.out.lt)
  clear hy
  generalize V1.drew = Y1x0 at hE0 P ⊢
  have E0 := lh hE0
  clear hE0
  refine tkA 0 (?_) ?_ E0.out ?_
  rotate_left
  · (intro w1 hS; go_simp; try with_reducible rfl)
  simp only [Act.put, tS1, tS2, tS3]
  refine tkA 1 (.agg cc) ?_ E0.out ?_
  · (intro w1 hS; have hW := hS; exact exec_load 29 (.tmp 3) rfl _ rfl _ (run_blk_load (P := Try.prog) 29 (w.heap.size) _ (M.out.below hW (by omega)) Try.underlying29 rfl IC.out))
  simp only [Act.put, tS1, tS2, tS3]
  refine tkA 2 (?_) ?_ E0.out ?_
  rotate_left
  · (intro w1 hS; go_simp; try with_reducible rfl)
  simp only [Act.put, tS1, tS2, tS3]
  refine tkA 3 (.agg kc) ?_ E0.out ?_
  · (intro w1 hS; have hW := hS; exact exec_load 42 (.tmp 4) rfl _ rfl _ (run_blk_load (P := Try.prog) 42 (w.heap.size + 1) _ (N.out.below hW (by omega)) Try.underlying42 rfl IK.out))
  simp only [Act.put, tS1, tS2, tS3]
  refine tkA 6 (?_) ?_ E0.out ?_
  rotate_left
  · (intro w1 hS; go_simp; try with_reducible rfl)
  simp only [Act.put, tS1, tS2, tS3]
  refine tkA 7 (?_) ?_ E0.out ?_
  rotate_left
  · (intro w1 hS; have hW := hS; have q := ((M.out.below hW (by omega)).cell 1).trans Q1.out; clear hW hS; go_simp; try with_reducible rfl)
  simp only [Act.put, tS1, tS2, tS3]
  refine tkO 4 (fun KK hK => ?_)
  go_simp
  refine (CH.out Y1x0).mono ?_
  rintro e Y1x1 ⟨rfl, hy⟩
  replace P := lh (P.out.below hy P.out.lt)
  have E1 := lh (E0.out.trans (hy.mono (Nat.le_trans hlow E0.out.size)))
  have C1 := lh E1.out
  clear hy E0
  refine hK.out _ _ C1.out (fun _ => ?_)
  clear hK KK
  clear C1
  try simp only [Act.put, tS1, tS2, tS3]
  refine tkA 5 (?_) ?_ E1.out ?_
  rotate_left
  · (intro w1 hS; go_simp; try with_reducible rfl)
  simp only [Act.put, tS1, tS2, tS3]
  refine tkA 8 (?_) ?_ E1.out ?_
  rotate_left
  · (intro w1 hS; go_simp; try with_reducible rfl)
  simp only [Act.put, tS1, tS2, tS3]
  refine tkA 9 (?_) ?_ E1.out ?_
  rotate_left
  · (intro w1 hS; go_simp; try with_reducible rfl)
  simp only [Act.put, tS1, tS2, tS3]
  refine tkO 10 (fun KK hK => ?_)
  rw [if_pos (by rfl)]
  refine wp_blk_store 51 (.tmp 6) (.tmp 16) rfl #[.int .i64 (n : Int), .int .i64 (r : Int)] rfl rfl P.out RY.out RZ.out RA.out ?_
  intro Y1x2 hA hF hB
  have E2 := lh (E1.out.trans (hB _ gP))
  replace P := lh hA
  clear hA hF hB E1
  refine hK.out _ _ E2.out (fun _ => ?_)
  clear hK KK
  try simp only [Act.put]
  refine wpAnyH_done (by kernel_rfl) ?_ _
  replace K := lh (K.out.trans (E2.out.mono (by omega)))
  replace M := lh (M.out.below E2.out (by omega))
  replace N := lh (N.out.below E2.out (by omega))
  clear E2
  go_wp2
  have hrun := run_blk_load (P := Try.prog) 51 (w.heap.size + 2) _ P.out Try.underlying51 rfl RZ.out
  exact bodyPost_ret (results_cell 6 51 (w.heap.size + 2) _ Try.results18 rfl hrun) rfl ⟨rfl, K.out⟩
set_option maxRecDepth 100000 in
theorem mask16 (d : Nat) (h : d ≤ 16) : IntKind.u32.wrap (IntKind.u32.wrap (2 ^ min d 32) - 1) = ((2 ^ d - 1 : Nat) : Int) := by
  have hp := pow16 d h
  have e : (2 : Int) ^ d = ((2 ^ d : Nat) : Int) := by simp
  rw [Nat.min_eq_left (by omega), e, IntKind.wrap_u32, IntKind.wrap_u32]
  generalize 2 ^ d = p at *
  omega
set_option maxRecDepth 100000 in
set_option maxHeartbeats 4000000 in
theorem rdigest_yes (c : Cf) (hc : c.Fit) (hok : okC c = true) (k : Fl) (hk : k.Fit) (hv : vK k = true) (w : World) :
    Calls Try.prog 19 #[.agg c.cs, .agg k.cs] w fun e w' => e = .returned (.int .u16 ((dgN c k : Nat) : Int)) ∧ Below w.heap.size w w' := by
  have K := lh (Below.refl w.heap.size w)
  have CV := lh (fun W => rvalid_any k hk W)
  rw [hv] at CV
  obtain ⟨b1, b2⟩ := okC_dg hok
  obtain ⟨d, hd⟩ : ∃ d : Nat, c.dg = (d : Int) := ⟨c.dg.toNat, by omega⟩
  have hd16 : d ≤ 16 := by omega
  obtain ⟨p1, p2⟩ := pow16 d hd16
  have CH := lh (fun W => rhash_any c hc 8 (by omega) k hk W)
  rw [show ((8 : Nat) : Int) = 8 from rfl] at CH
  have hr : dgN c k = hsh c 8 k % 2 ^ d := by unfold dgN; rw [hv, hd, if_pos rfl, Int.toNat_natCast]
  rw [hr]
  have hl := hsh_lt c 8 k
  generalize hsh c 8 k = H at *
  have a1 : bits .and .u32 (H : Int) ((2 ^ d - 1 : Nat) : Int) = ((H % 2 ^ d : Nat) : Int) := by
    rw [u32_and_nat H (2 ^ d - 1) hl (by omega), Nat.and_two_pow_sub_one_eq_mod]
  have wm := mask16 d hd16
  have hm := Nat.mod_lt H p1
  generalize H % 2 ^ d = r at *
  have w1 : IntKind.u16.wrap (r : Int) = (r : Int) := by rw [IntKind.wrap_u16]; omega
  have w2 : IntKind.u64.wrap (d : Int) = (d : Int) := by rw [IntKind.wrap_u64]; omega
  generalize (2 : Nat) ^ d - 1 = P1 at *
  obtain ⟨b0, b1, b2, b3, b4, b5, b6, b7, b8, b9, b10, b11, b12, b13, b14, b15⟩ := cf_get c hc
  have Q0 := lh b0
  have Q1 := lh b1
  have Q2 := lh b2
  have Q3 := lh b3
  have Q4 := lh b4
  have Q5 := lh b5
  have Q6 := lh b6
  have Q7 := lh b7
  have Q8 := lh b8
  have Q9 := lh b9
  have Q10 := lh b10
  have Q11 := lh b11
  have Q12 := lh b12
  have Q13 := lh b13
  have Q14 := lh b14
  have Q15 := lh b15
  clear b0 b1 b2 b3 b4 b5 b6 b7 b8 b9 b10 b11 b12 b13 b14 b15
  have CP1 := lh (cf_own c)
  have CP2 := lh (cf_own6 c hc)
  have CI1 := lh (cf_io c hc)
  have CI2 := lh (cf_ix c hc)
  have IC := lh (cf_ic c hc)
  rw [hd] at Q2
  obtain ⟨a0, a1, a18, a35, a36⟩ := fl_get k hk
  have G0 := lh a0
  have G1 := lh a1
  have G18 := lh a18
  have G35 := lh a35
  have G36 := lh a36
  have KP1 := lh (fl_src k)
  have KP2 := lh (fl_dst k hk)
  have IS := lh (fl_is k hk)
  have ID := lh (fl_id k hk)
  have IK := lh (fl_ik k hk)
  clear a0 a1 a18 a35 a36
  generalize k.cs = kc at *
  generalize cellsA k.sv k.S = S at *
  generalize cellsA k.dv k.D = D at *
  generalize k.p = p at *
  generalize k.sv = sv at *
  generalize k.dv = dv at *
  generalize k.sp = sp at *
  generalize k.dp = dp at *
  generalize c.cs = cc at *
  generalize cellsA c.ov c.O = SO at *
  generalize cellsA c.xv c.X = SX at *
  clear hc hk hv hok b1 b2 hd hd16 p1 p2 hr hl hm
  go_enter Try.func19, Try.ntmps19
  have hal := (Below.refl w.heap.size w).alloc (Nat.le_refl _) (.cells cc 29)
  replace K := lh (K.out.trans (hal.mono K.out.size))
  have M := lh (Blk.new w 29 cc)
  clear hal
  have hal := (Below.refl (w.alloc (.cells cc 29)).heap.size (w.alloc (.cells cc 29))).alloc (Nat.le_refl _) (.cells kc 42)
  replace K := lh (K.out.trans (hal.mono K.out.size))
  replace M := lh (M.out.below hal M.out.lt)
  have Nq := Blk.new (w.alloc (.cells cc 29)) 42 kc
  simp only [World.size_alloc] at Nq
  have N := lh Nq
  clear Nq
  clear hal
  have L2 : (loadVar 42 ⟨w.heap.size + 1, 0, none⟩).run Try.prog ((w.alloc (.cells cc 29)).alloc (.cells kc 42)) = .ok (.agg kc) ((w.alloc (.cells cc 29)).alloc (.cells kc 42)) := run_blk_load (P := Try.prog) 42 (w.heap.size + 1) _ N.out Try.underlying42 rfl IK.out
  replace L2 := lh L2
  go_wp2_with (((with_reducible refine wpList_load_want (op := ⟨some 5, .load 42 (.tmp 3), _, _, _, _⟩) ?wg2 42 (.tmp 3) ?wo2 ⟨w.heap.size + 1, 0, none⟩ ?wx2 (.agg kc) L2.out ?_); (case wg2 => rfl); (case wo2 => rfl); (case wx2 => rfl)))
  clear L2
  have hzV1 : Hid (((w.alloc (.cells cc 29)).alloc (.cells kc 42)).heap.size = w.heap.size + 1 + 1) := by show _ = _; simp only [World.size_alloc]
  generalize ((w.alloc (.cells cc 29)).alloc (.cells kc 42)) = V1 at *
  refine (CV.out V1).mono ?_
  rintro e V2 ⟨rfl, hy⟩
  replace K := lh (K.out.trans (hy.mono K.out.size))
  replace M := lh (M.out.below hy M.out.lt)
  replace N := lh (N.out.below hy N.out.lt)
  clear hy
  go_upto_region 3 with fail
  refine wp_region_held (S := (fun w' : World => Below (V2.heap.size) V2 w')) (by kernel_rfl) ?_
  change wpAnyH _ _ _ _ _ _ _ _ V2.drew
  have hy : Below V2.heap.size V2 V2.drew := (Below.refl _ _).drew
  have hE0 : Below (V2.heap.size) V2 V2.drew := (Below.refl _ _).drew
  clear hy
  generalize V2.drew = Y3x0 at hE0  ⊢
  have E0 := lh hE0
  clear hE0
  refine tkA 0 (.agg cc) ?_ E0.out ?_
  · (intro w1 hS; have hW := hS; exact exec_load 29 (.tmp 2) rfl _ rfl _ (run_blk_load (P := Try.prog) 29 (w.heap.size) _ (M.out.below hW M.out.lt) Try.underlying29 rfl IC.out))
  simp only [Act.put, tS1, tS2, tS3]
  refine tkA 1 (.agg kc) ?_ E0.out ?_
  · (intro w1 hS; have hW := hS; exact exec_load 42 (.tmp 3) rfl _ rfl _ (run_blk_load (P := Try.prog) 42 (w.heap.size + 1) _ (N.out.below hW N.out.lt) Try.underlying42 rfl IK.out))
  simp only [Act.put, tS1, tS2, tS3]
  refine tkA 3 (?_) ?_ E0.out ?_
  rotate_left
  · (intro w1 hS; go_simp; try with_reducible rfl)
  simp only [Act.put, tS1, tS2, tS3]
  refine tkA 4 (?_) ?_ E0.out ?_
  rotate_left
  · (intro w1 hS; have hW := hS; have q := ((M.out.below hW M.out.lt).cell 2).trans Q2.out; clear hW hS; go_simp; try with_reducible rfl)
  simp only [Act.put, tS1, tS2, tS3]
  refine tkA 5 (?_) ?_ E0.out ?_
  rotate_left
  · (intro w1 hS; go_simp; try with_reducible rfl)
  simp only [Act.put, tS1, tS2, tS3]
  refine tkA 6 (?_) ?_ E0.out ?_
  rotate_left
  · (intro w1 hS; go_simp; try with_reducible rfl)
  simp only [Act.put, tS1, tS2, tS3]
  refine tkA 7 (?_) ?_ E0.out ?_
  rotate_left
  · (intro w1 hS; go_simp; try with_reducible rfl)
  simp only [Act.put, tS1, tS2, tS3]
  refine tkO 2 (fun KK hK => ?_)
  go_simp
  refine (CH.out Y3x0).mono ?_
  rintro e Y3x1 ⟨rfl, hy⟩
  have E1 := lh (E0.out.trans (hy.mono E0.out.size))
  have C1 := lh E1.out
  clear hy E0
  refine hK.out _ _ C1.out (fun _ => ?_)
  clear hK KK
  refine wpAnyH_mono (S' := (fun w' : World => Below Y3x1.heap.size Y3x1 w')) (fun w1 h => C1.out.trans (h.mono C1.out.size)) _ _ _ _ ?_
  clear C1
  try simp only [Act.put, tS1, tS2, tS3]
  refine tkA 8 (?_) ?_ (Below.refl _ _) ?_
  rotate_left
  · (intro w1 hS; go_simp; try with_reducible rfl)
  simp only [Act.put, tS1, tS2, tS3]
  refine tkA 9 (?_) ?_ (Below.refl _ _) ?_
  rotate_left
  · (intro w1 hS; go_simp; try with_reducible rfl)
  simp only [Act.put, tS1, tS2, tS3]
  refine tkA 10 (?_) ?_ (Below.refl _ _) ?_
  rotate_left
  · (intro w1 hS; go_simp; try with_reducible rfl)
  simp only [Act.put, tS1, tS2, tS3]
  refine wpAnyH_done (by kernel_rfl) ?_ _
  have hy := E1.out
  replace K := lh (K.out.trans (hy.mono K.out.size))
  replace M := lh (M.out.below hy M.out.lt)
  replace N := lh (N.out.below hy N.out.lt)
  clear hy E1
  go_wp2
  go_ret
  exact ⟨rfl, K.out⟩
end Go.Proofs.Ythldpnifodbheaa
