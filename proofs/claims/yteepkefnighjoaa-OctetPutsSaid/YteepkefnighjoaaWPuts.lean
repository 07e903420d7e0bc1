/- The walk of OctetPuts. -/
import Derived.Test.YteepkefnighjoaaOctL
import Derived.Test.YteepkefnighjoaaRow
import Derived.Test.YteepkefnighjoaaJoin
import Derived.Test.YteepkefnighjoaaFresh
import Derived.Deep.CutBlock
import Derived.Deep.DeepCutAuto
namespace Go.Proofs.Yteepkefnighjoaa
open Go.RowKit

set_option maxRecDepth 100000 in
set_option maxHeartbeats 2000000 in
theorem puts_walk_long (a : Option Addr) (len cap : Nat) (at0 v : Int) (w : World) (hc : len ≤ maxLen) (h : 200 < len) :
    Calls Try.prog 4 #[.slice a len cap, .int .i64 at0, .int .u64 v] w fun e w' => e = .returned (.bool true) ∧ Below w.heap.size w w' := by
  unfold maxLen at hc
  go_enter Try.func4, Try.ntmps4
  go_wp2_with fail
  refine (awake_any _).mono ?_
  rintro e w2 ⟨rfl, hb⟩
  go_wp2
  go_ret
  exact ⟨rfl, hb⟩

/-- What Put leaves. -/
def putMaybe (bs : List Nat) (at0 : Int) (s v : Nat) : List Nat := if 0 ≤ at0 ∧ at0 + s ≤ bs.length then bs.take at0.toNat ++ (bg s v ++ bs.drop (at0.toNat + s)) else bs
theorem putMaybe_yes (bs : List Nat) (at0 : Int) (s v k : Nat) (hk : at0 = k) (h : k + s ≤ bs.length) : putMaybe bs at0 s v = bs.take k ++ (bg s v ++ bs.drop (k + s)) := by
  subst hk
  unfold putMaybe
  rw [if_pos ⟨by omega, by omega⟩]
  rfl
theorem putMaybe_no (bs : List Nat) (at0 : Int) (s v : Nat) (h : ¬ (0 ≤ at0 ∧ at0 + s ≤ bs.length)) : putMaybe bs at0 s v = bs := if_neg h

/-- What the law's own loop has written. -/
def midw (bs row : List Nat) (k t : Nat) : List Nat := bs.take k ++ (row.take t ++ bs.drop (k + t))
theorem midw_step (bs row : List Nat) (k t : Nat) (h : k + row.length ≤ bs.length) (ht : t < row.length) : (midw bs row k t).set (k + t) (row.getD t 0) = midw bs row k (t + 1) := by
  unfold midw
  have h1 : (bs.take k).length = k := by rw [List.length_take]; omega
  have h2 : (row.take t).length = t := by rw [List.length_take]; omega
  have h3 : bs.drop (k + t) = bs.getD (k + t) 0 :: bs.drop (k + (t + 1)) := by
    rw [List.drop_eq_getElem_cons (by omega), List.getD_eq_getElem?_getD, List.getElem?_eq_getElem (by omega)]; rfl
  have h4 : row.take (t + 1) = row.take t ++ [row.getD t 0] := by
    rw [List.take_add_one, List.getD_eq_getElem?_getD, List.getElem?_eq_getElem ht]; rfl
  rw [List.set_append, if_neg (by omega), h1, List.set_append, if_neg (by omega), h2, h3, h4, show k + t - k - t = 0 by omega]
  simp
theorem midw_all (bs row : List Nat) (k s : Nat) (h : row.length = s) : midw bs row k s = bs.take k ++ (row ++ bs.drop (k + s)) := by
  subst h
  unfold midw
  rw [List.take_length]
theorem midw_zero (bs row : List Nat) (k : Nat) : midw bs row k 0 = bs := by simp [midw]
theorem midw_length (bs row : List Nat) (k t : Nat) (h : k + row.length ≤ bs.length) (ht : t ≤ row.length) : (midw bs row k t).length = bs.length := by
  simp [midw]; omega
theorem str_size (zs : List Nat) : (str zs).size = zs.length := by simp [str, ByteArray.size]
theorem str_sizes (a b : List Nat) (ha : a.length ≤ 200) (hb : b.length ≤ 8) : (str a).size + (str b).size ≤ 9223372036854775807 := by
  rw [str_size, str_size]
  exact Nat.le_trans (Nat.add_le_add ha hb) (by decide)
theorem not_there2 (len s : Nat) (at0 : Int) (h : ¬ (0 ≤ at0 ∧ at0 + s ≤ len)) (h0 : ¬ at0 < 0) : decide ((s : Int) ≤ (len : Int) - at0) = false := by
  simp only [decide_eq_false_iff_not]
  omega

set_option maxRecDepth 100000 in
set_option maxHeartbeats 8000000 in
theorem puts_walk_short (a : Option Addr) (len cap : Nat) (bs : List Nat) (at0 : Int) (v : Nat) (w : World) (hr : Rd w (.slice a len cap) (nus .u8 bs)) (hn : a = none → len = 0 ∧ cap = 0) (hb : ∀ c ∈ bs, c < 256) (hat : -9223372036854775808 ≤ at0 ∧ at0 ≤ 9223372036854775807) (hv : v < 18446744073709551616) (h1 : len ≤ 200) :
    Calls Try.prog 4 #[.slice a len cap, .int .i64 at0, .int .u64 v] w fun e w' => e = .returned (.bool true) ∧ Below w.heap.size w w' := by
  have hlen : len = bs.length := by obtain ⟨_, _, e, _⟩ := hr; simp only [Value.slice.injEq] at e; rw [e.2.1, nus_length]
  have q8 := Lib.hid (show (v : Int) % 256 = ((v % 256 : Nat) : Int) by omega)
  have q16 := Lib.hid (show IntKind.u16.wrap (v : Int) = ((v % 65536 : Nat) : Int) by simp [IntKind.wrap, IntKind.signed, IntKind.bits])
  have q32 := Lib.hid (show (v : Int) % 4294967296 = ((v % 4294967296 : Nat) : Int) by omega)
  have HR := Lib.hid hr
  have HN := Lib.hid hn
  have HB := Lib.hid hb
  have HL := Lib.hid hlen
  clear hr hn hb hlen
  go_enter Try.func4, Try.ntmps4
  go_wp2_with fail
  go_loopw [7] (fun i wr => ∃ j : Nat, j ≤ 4 ∧ i = .int .i64 j ∧ Below w.heap.size w wr) (fun i _ => 4 - (intOf i).toNat)
  case atStart => exact ⟨0, Nat.zero_le _, rfl, Below.refl _ _⟩
  case round =>
    obtain ⟨j, hj, rfl, hB⟩ := hrel
    by_cases hlt : j < 4
    · obtain ⟨s, hs⟩ : ∃ s, s = 2 ^ j := ⟨_, rfl⟩
      have h4 : j = 0 ∨ j = 1 ∨ j = 2 ∨ j = 3 := by omega
      have hs8 : 1 ≤ s ∧ s ≤ 8 := by rw [hs]; rcases h4 with rfl | rfl | rfl | rfl <;> decide
      have hsz : wrap64 (2 ^ j) = (s : Int) := by rw [hs]; rcases h4 with rfl | rfl | rfl | rfl <;> decide +kernel
      have HS := Lib.hid hs
      have HBB := Lib.hid hB
      have H4 := Lib.hid h4
      have oE := own_lit wr .u8 5 [] 0 w.heap.size rfl (by simp [maxLen]) hB.size
      have rA := (HR.out.below hB).below ((Below.refl wr.heap.size wr).alloc (Nat.le_refl _) (.cells (nus .u8 []).toArray 5))
      have OE := Lib.hid oE
      have RA := Lib.hid rA
      have bE := (hB.alloc hB.size (.cells (nus .u8 []).toArray 5))
      have hsA : w.heap.size ≤ (wr.alloc (.cells (nus .u8 []).toArray 5)).heap.size := bE.size
      have BE := Lib.hid bE
      clear h4 hs hB oE rA bE
      go_wp2_with (at_builtin; refine wpList_fresh rfl (.tmp 26) (.tmp 27) rfl w.heap.size _ rfl OE.out (by intro h; cases h) a len cap bs rfl RA.out HN.out ?c2 ?c3 ?c4)
      case c2 => omega
      case c3 => exact hsA
      case c4 =>
      intro g capv w1 hcap hown hgr
      have b1 := BE.out.grown hgr hsA (fun k hk => by cases hk; exact HBB.out.size)
      have hgb := (hown.lt g rfl).1
      have O1 := Lib.hid hown
      have B1 := Lib.hid b1
      clear hown hgr b1 OE BE RA hsA
      go_upto_block 2 with fail
      go_cut [10, 11] (fun ok x wx => ok = .bool (decide (0 ≤ at0 ∧ at0 + s ≤ len)) ∧ Rd wx (.slice (some ⟨g, 0, none⟩) len capv) (nus .u8 (putMaybe bs at0 s v)) ∧ Rd wx x (nus .u8 (bs ++ bg s v)) ∧ Below w.heap.size w wx)
      case first =>
        rcases H4.out with rfl | rfl | rfl | rfl
        · obtain rfl : s = 1 := HS.out
          by_cases hgood : 0 ≤ at0 ∧ at0 + ((1 : Nat) : Int) ≤ len
          · obtain ⟨k, hk⟩ := Int.eq_ofNat_of_zero_le hgood.1
            have hkl : k + 1 ≤ len := by have := hgood.2; omega
            have hput := putMaybe_yes bs at0 1 v k hk (by rw [← HL.out]; exact hkl)
            have hgd : decide (0 ≤ at0 ∧ at0 + ((1 : Nat) : Int) ≤ len) = true := decide_eq_true hgood
            have HPUT := Lib.hid hput
            have HGD := Lib.hid hgd
            clear hput hgd hgood
            subst hk
            go_wp2_with (first
              | (go_at_call 14; rw [q8.out]; refine (put8_yes g len capv w.heap.size k (v % 256) bs _ O1.out (by unfold maxLen; omega) hkl (Nat.mod_lt _ (by decide))).mono ?_; rintro e w2 ⟨rfl, hown2, hgr2⟩; have b2 := B1.out.grown hgr2 B1.out.size (fun k hk => by cases hk; exact hgb); have rc2 := Rd.own hown2; have rb2 := HR.out.below b2)
              | (go_at_call 15; rw [q8.out]; refine (app8_any _ bs (v % 256) _ rb2 (by rw [← HL.out]; omega) (Nat.mod_lt _ (by decide))).mono ?_; rintro e w3 ⟨x, rfl, hown3, hb3⟩))
            go_meet
            rw [HPUT.out, HGD.out]
            have e1 : bg 1 (v % 256) = bg 1 v := (by rw [show 256 = 256 ^ 1 from rfl]; exact bg_mod _ _)
            unfold putRow at rc2
            rw [e1] at rc2 hown3
            exact ⟨rfl, by simpa using rc2.below hb3, Rd.own hown3, b2.trans (hb3.mono b2.size)⟩
          · have hput := putMaybe_no bs at0 1 v (by rw [← HL.out]; exact hgood)
            have hgd : decide (0 ≤ at0 ∧ at0 + ((1 : Nat) : Int) ≤ len) = false := decide_eq_false hgood
            have hno := there_no len 1 at0 hgood
            have rb2 := HR.out.below B1.out
            have rc2 := Rd.own O1.out
            have HPUT := Lib.hid hput
            have HGD := Lib.hid hgd
            clear hput hgd hgood
            go_wp2_with (first
              | (go_at_call 14; refine (put8_no _ len capv at0 _ _ (by unfold maxLen; omega) hno).mono ?_; rintro e w2 ⟨rfl, rfl⟩)
              | (go_at_call 15; rw [q8.out]; refine (app8_any _ bs (v % 256) _ rb2 (by rw [← HL.out]; omega) (Nat.mod_lt _ (by decide))).mono ?_; rintro e w3 ⟨x, rfl, hown3, hb3⟩))
            go_meet
            rw [HPUT.out, HGD.out]
            have e1 : bg 1 (v % 256) = bg 1 v := (by rw [show 256 = 256 ^ 1 from rfl]; exact bg_mod _ _)
            rw [e1] at hown3
            exact ⟨rfl, rc2.below hb3, Rd.own hown3, B1.out.trans (hb3.mono B1.out.size)⟩
        · obtain rfl : s = 2 := HS.out
          by_cases hgood : 0 ≤ at0 ∧ at0 + ((2 : Nat) : Int) ≤ len
          · obtain ⟨k, hk⟩ := Int.eq_ofNat_of_zero_le hgood.1
            have hkl : k + 2 ≤ len := by have := hgood.2; omega
            have hput := putMaybe_yes bs at0 2 v k hk (by rw [← HL.out]; exact hkl)
            have hgd : decide (0 ≤ at0 ∧ at0 + ((2 : Nat) : Int) ≤ len) = true := decide_eq_true hgood
            have HPUT := Lib.hid hput
            have HGD := Lib.hid hgd
            clear hput hgd hgood
            subst hk
            go_wp2_with (first
              | (go_at_call 16; rw [q16.out]; refine (put16_yes g len capv w.heap.size k (v % 65536) bs _ O1.out (by unfold maxLen; omega) hkl (Nat.mod_lt _ (by decide))).mono ?_; rintro e w2 ⟨rfl, hown2, hgr2⟩; have b2 := B1.out.grown hgr2 B1.out.size (fun k hk => by cases hk; exact hgb); have rc2 := Rd.own hown2; have rb2 := HR.out.below b2)
              | (go_at_call 17; rw [q16.out]; refine (app16_any _ bs (v % 65536) _ rb2 (by rw [← HL.out]; omega) (Nat.mod_lt _ (by decide))).mono ?_; rintro e w3 ⟨x, rfl, hown3, hb3⟩))
            go_meet
            rw [HPUT.out, HGD.out]
            have e1 : bg 2 (v % 65536) = bg 2 v := (by rw [show 65536 = 256 ^ 2 from rfl]; exact bg_mod _ _)
            unfold putRow at rc2
            rw [e1] at rc2 hown3
            exact ⟨rfl, by simpa using rc2.below hb3, Rd.own hown3, b2.trans (hb3.mono b2.size)⟩
          · have hput := putMaybe_no bs at0 2 v (by rw [← HL.out]; exact hgood)
            have hgd : decide (0 ≤ at0 ∧ at0 + ((2 : Nat) : Int) ≤ len) = false := decide_eq_false hgood
            have hno := there_no len 2 at0 hgood
            have rb2 := HR.out.below B1.out
            have rc2 := Rd.own O1.out
            have HPUT := Lib.hid hput
            have HGD := Lib.hid hgd
            clear hput hgd hgood
            go_wp2_with (first
              | (go_at_call 16; refine (put16_no _ len capv at0 _ _ (by unfold maxLen; omega) hno).mono ?_; rintro e w2 ⟨rfl, rfl⟩)
              | (go_at_call 17; rw [q16.out]; refine (app16_any _ bs (v % 65536) _ rb2 (by rw [← HL.out]; omega) (Nat.mod_lt _ (by decide))).mono ?_; rintro e w3 ⟨x, rfl, hown3, hb3⟩))
            go_meet
            rw [HPUT.out, HGD.out]
            have e1 : bg 2 (v % 65536) = bg 2 v := (by rw [show 65536 = 256 ^ 2 from rfl]; exact bg_mod _ _)
            rw [e1] at hown3
            exact ⟨rfl, rc2.below hb3, Rd.own hown3, B1.out.trans (hb3.mono B1.out.size)⟩
        · obtain rfl : s = 4 := HS.out
          by_cases hgood : 0 ≤ at0 ∧ at0 + ((4 : Nat) : Int) ≤ len
          · obtain ⟨k, hk⟩ := Int.eq_ofNat_of_zero_le hgood.1
            have hkl : k + 4 ≤ len := by have := hgood.2; omega
            have hput := putMaybe_yes bs at0 4 v k hk (by rw [← HL.out]; exact hkl)
            have hgd : decide (0 ≤ at0 ∧ at0 + ((4 : Nat) : Int) ≤ len) = true := decide_eq_true hgood
            have HPUT := Lib.hid hput
            have HGD := Lib.hid hgd
            clear hput hgd hgood
            subst hk
            go_wp2_with (first
              | (go_at_call 18; rw [q32.out]; refine (put32_yes g len capv w.heap.size k (v % 4294967296) bs _ O1.out (by unfold maxLen; omega) hkl (Nat.mod_lt _ (by decide))).mono ?_; rintro e w2 ⟨rfl, hown2, hgr2⟩; have b2 := B1.out.grown hgr2 B1.out.size (fun k hk => by cases hk; exact hgb); have rc2 := Rd.own hown2; have rb2 := HR.out.below b2)
              | (go_at_call 19; rw [q32.out]; refine (app32_any _ bs (v % 4294967296) _ rb2 (by rw [← HL.out]; omega) (Nat.mod_lt _ (by decide))).mono ?_; rintro e w3 ⟨x, rfl, hown3, hb3⟩))
            go_meet
            rw [HPUT.out, HGD.out]
            have e1 : bg 4 (v % 4294967296) = bg 4 v := (by rw [show 4294967296 = 256 ^ 4 from rfl]; exact bg_mod _ _)
            unfold putRow at rc2
            rw [e1] at rc2 hown3
            exact ⟨rfl, by simpa using rc2.below hb3, Rd.own hown3, b2.trans (hb3.mono b2.size)⟩
          · have hput := putMaybe_no bs at0 4 v (by rw [← HL.out]; exact hgood)
            have hgd : decide (0 ≤ at0 ∧ at0 + ((4 : Nat) : Int) ≤ len) = false := decide_eq_false hgood
            have hno := there_no len 4 at0 hgood
            have rb2 := HR.out.below B1.out
            have rc2 := Rd.own O1.out
            have HPUT := Lib.hid hput
            have HGD := Lib.hid hgd
            clear hput hgd hgood
            go_wp2_with (first
              | (go_at_call 18; refine (put32_no _ len capv at0 _ _ (by unfold maxLen; omega) hno).mono ?_; rintro e w2 ⟨rfl, rfl⟩)
              | (go_at_call 19; rw [q32.out]; refine (app32_any _ bs (v % 4294967296) _ rb2 (by rw [← HL.out]; omega) (Nat.mod_lt _ (by decide))).mono ?_; rintro e w3 ⟨x, rfl, hown3, hb3⟩))
            go_meet
            rw [HPUT.out, HGD.out]
            have e1 : bg 4 (v % 4294967296) = bg 4 v := (by rw [show 4294967296 = 256 ^ 4 from rfl]; exact bg_mod _ _)
            rw [e1] at hown3
            exact ⟨rfl, rc2.below hb3, Rd.own hown3, B1.out.trans (hb3.mono B1.out.size)⟩
        · obtain rfl : s = 8 := HS.out
          by_cases hgood : 0 ≤ at0 ∧ at0 + ((8 : Nat) : Int) ≤ len
          · obtain ⟨k, hk⟩ := Int.eq_ofNat_of_zero_le hgood.1
            have hkl : k + 8 ≤ len := by have := hgood.2; omega
            have hput := putMaybe_yes bs at0 8 v k hk (by rw [← HL.out]; exact hkl)
            have hgd : decide (0 ≤ at0 ∧ at0 + ((8 : Nat) : Int) ≤ len) = true := decide_eq_true hgood
            have HPUT := Lib.hid hput
            have HGD := Lib.hid hgd
            clear hput hgd hgood
            subst hk
            go_wp2_with (first
              | (go_at_call 20; refine (put64_yes g len capv w.heap.size k v bs _ O1.out (by unfold maxLen; omega) hkl hv).mono ?_; rintro e w2 ⟨rfl, hown2, hgr2⟩; have b2 := B1.out.grown hgr2 B1.out.size (fun k hk => by cases hk; exact hgb); have rc2 := Rd.own hown2; have rb2 := HR.out.below b2)
              | (go_at_call 21; refine (app64_any _ bs v _ rb2 (by rw [← HL.out]; omega) hv).mono ?_; rintro e w3 ⟨x, rfl, hown3, hb3⟩))
            go_meet
            rw [HPUT.out, HGD.out]
            have e1 : bg 8 v = bg 8 v := rfl
            unfold putRow at rc2
            rw [e1] at rc2 hown3
            exact ⟨rfl, by simpa using rc2.below hb3, Rd.own hown3, b2.trans (hb3.mono b2.size)⟩
          · have hput := putMaybe_no bs at0 8 v (by rw [← HL.out]; exact hgood)
            have hgd : decide (0 ≤ at0 ∧ at0 + ((8 : Nat) : Int) ≤ len) = false := decide_eq_false hgood
            have hno := there_no len 8 at0 hgood
            have rb2 := HR.out.below B1.out
            have rc2 := Rd.own O1.out
            have HPUT := Lib.hid hput
            have HGD := Lib.hid hgd
            clear hput hgd hgood
            go_wp2_with (first
              | (go_at_call 20; refine (put64_no _ len capv at0 _ _ (by unfold maxLen; omega) hno).mono ?_; rintro e w2 ⟨rfl, rfl⟩)
              | (go_at_call 21; refine (app64_any _ bs v _ rb2 (by rw [← HL.out]; omega) hv).mono ?_; rintro e w3 ⟨x, rfl, hown3, hb3⟩))
            go_meet
            rw [HPUT.out, HGD.out]
            have e1 : bg 8 v = bg 8 v := rfl
            rw [e1] at hown3
            exact ⟨rfl, rc2.below hb3, Rd.own hown3, B1.out.trans (hb3.mono B1.out.size)⟩
      case rest =>
        obtain ⟨rfl, rc, rx, bw⟩ := hcut
        have oE := own_lit wc .u8 5 [] 0 wc.heap.size rfl (by simp [maxLen]) (Nat.le_refl _)
        have bE := ((Below.refl wc.heap.size wc).alloc (Nat.le_refl _) (.cells (nus .u8 []).toArray 5))
        have rA := (HR.out.below bw).below bE
        have hsA := bE.size
        have OE := Lib.hid oE
        have RA := Lib.hid rA
        have BE := Lib.hid bE
        have RC := Lib.hid rc
        have RX := Lib.hid rx
        have BW := Lib.hid bw
        clear O1 B1 HBB oE rA bE rc rx bw
        by_cases hgood : 0 ≤ at0 ∧ at0 + s ≤ len
        · rw [decide_eq_true hgood]
          obtain ⟨k, hk⟩ := Int.eq_ofNat_of_zero_le hgood.1
          have hkl : k + s ≤ len := by have := hgood.2; omega
          have hput := putMaybe_yes bs at0 s v k hk (by rw [← HL.out]; exact hkl)
          have hg3 : decide ((s : Int) ≤ (len : Int) - (k : Int)) = true := decide_eq_true (by omega)
          have HPUT := Lib.hid hput
          clear hput hgood
          subst hk
          go_wp2_with (at_builtin; refine wpList_fresh rfl (.tmp 72) (.tmp 73) rfl wc.heap.size _ rfl OE.out (by intro h; cases h) a len cap bs rfl RA.out HN.out ?dd2 ?dd3 ?dd4)
          case dd2 => omega
          try (case dd3 => exact hsA)
          case dd4 =>
          intro g2 cap2 w4 hcap2 hown2 hgr2
          have b4 := BE.out.grown hgr2 hsA (fun k hk => by cases hk; exact Nat.le_refl _)
          have hg2 := (hown2.lt g2 rfl)
          have B4 := Lib.hid b4
          have O2 := Lib.hid hown2
          clear hown2 hgr2 b4 hsA OE RA BE
          go_wp2_with fail
          refine (big_any v s _ hv (by omega)).mono ?_
          rintro e w5 ⟨z, rfl, hz, hb5⟩
          obtain ⟨gz, capz, hcz, rfl⟩ : ∃ gz cap', s ≤ cap' ∧ z = .slice (some ⟨gz, 0, none⟩) s cap' := by
            rcases hz.2 with ⟨_, h⟩ | ⟨g, cap', cur, rfl, _, _, hn, hm, _⟩
            · omega
            · exact ⟨g, cap', hn, rfl⟩
          have OZ := Lib.hid hz
          have O5 := Lib.hid (World.ownsRow.belowB O2.out hb5)
          have B5 := Lib.hid (B4.out.trans (hb5.mono B4.out.size))
          have hrl := bg_length s v
          have HRL := Lib.hid hrl
          clear hz hb5 O2 hrl
          go_wp2_with fail
          go_loopw [15] (fun i wq => ∃ t : Nat, t ≤ s ∧ i = .int .i64 t ∧ wq.ownsRow wc.heap.size 5 1 (.slice (some ⟨g2, 0, none⟩) len cap2) len (nus .u8 (midw bs (bg s v) k t)) ∧ wq.ownsRow w4.heap.size 5 1 (.slice (some ⟨gz, 0, none⟩) s capz) s (nus .u8 (bg s v)) ∧ Below wc.heap.size wc wq) (fun i _ => s - (intOf i).toNat)
          case atStart => exact ⟨0, Nat.zero_le _, rfl, by rw [midw_zero]; exact O5.out, OZ.out, B5.out⟩
          case round =>
            obtain ⟨t, ht, rfl, hw, hz, hbq⟩ := hrel
            by_cases hts : t < s
            · have z1 := hz.cellAt t (by omega)
              rw [nus_get _ _ _ (by rw [HRL.out]; exact hts)] at z1
              have w1c := hw.cellAt (k + t) (by omega)
              rw [nus_get _ _ _ (by rw [midw_length bs _ k t (by rw [HRL.out, ← HL.out]; exact hkl) (by rw [HRL.out]; exact ht), ← HL.out]; omega)] at w1c
              have fk := hw.frozenAt (k + t)
              have hst := (hw.stored (k + t) (.int .u8 (((bg s v).getD t 0 : Nat) : Int))).1
              rw [nus_set, midw_step bs _ k t (by rw [HRL.out, ← HL.out]; exact hkl) (by rw [HRL.out]; exact hts)] at hst
              have hzt := ownsRow_setCell_below hz (a := ⟨g2, k + t, none⟩) hg2.2 (.int .u8 (((bg s v).getD t 0 : Nat) : Int))
              have hbt := hbq.setCell (p := ⟨g2, k + t, none⟩) hg2.1 (.int .u8 (((bg s v).getD t 0 : Nat) : Int))
              have HST := Lib.hid hst
              have HZT := Lib.hid hzt
              have HBT := Lib.hid hbt
              generalize (bg s v).getD t 0 = cc at z1 HST HZT HBT
              generalize (midw bs (bg s v) k t).getD (k + t) 0 = dd at w1c
              clear hw hz hbq hst hzt hbt O5 OZ B5
              go_wp2
              go_roundw
              case rel => exact ⟨t + 1, by omega, by go_num, HST.out, HZT.out, HBT.out⟩
              case measure => simp [intOf]; omega
            · obtain rfl : t = s := by omega
              have k1 := conv_rd _ 22 9 5 Try.underlying22 Try.underlying5 Try.underlying9 _ _ (RC.out.below hbq)
              have k2 := conv_rd _ 22 9 5 Try.underlying22 Try.underlying5 Try.underlying9 _ _ (Rd.own hw)
              have k3 := conv_rd _ 22 9 5 Try.underlying22 Try.underlying5 Try.underlying9 _ _ (RX.out.below hbq)
              have k4 := conv_rd _ 22 9 5 Try.underlying22 Try.underlying5 Try.underlying9 _ _ ((HR.out.below BW.out).below hbq)
              have k5 := conv_rd _ 22 9 5 Try.underlying22 Try.underlying5 Try.underlying9 _ _ (Rd.own hz)
              rw [HPUT.out] at k1
              rw [midw_all bs _ k t HRL.out] at k2
              rw [str_append] at k3
              have bq := Lib.hid (BW.out.trans (hbq.mono BW.out.size))
              have hss : (str bs).size + (str (bg t v)).size ≤ 9223372036854775807 := str_sizes _ _ (by rw [← HL.out]; exact h1) (by rw [HRL.out]; exact hs8.2)
              generalize str (bs.take k ++ (bg t v ++ bs.drop (k + t))) = S1 at k1 k2
              generalize str bs = S2 at k3 k4 hss
              generalize str (bg t v) = S3 at k3 k5 hss
              clear hw hz hbq O5 OZ B5 B4 RC RX BW HPUT
              go_wp2
              go_roundw
              case rel => exact ⟨j + 1, by omega, by go_num, bq.out⟩
              case measure => simp [intOf]; omega
        · rw [decide_eq_false hgood]
          have HPUT := Lib.hid (putMaybe_no bs at0 s v (by rw [← HL.out]; exact hgood))
          by_cases hn : at0 < 0
          · have hnn : decide ((0 : Int) ≤ at0) = false := decide_eq_false (by omega)
            clear hgood
            go_wp2_with (at_builtin; refine wpList_fresh rfl (.tmp 72) (.tmp 73) rfl wc.heap.size _ rfl OE.out (by intro h; cases h) a len cap bs rfl RA.out HN.out ?ee2 ?ee3 ?ee4)
            case ee2 => omega
            try (case ee3 => exact hsA)
            case ee4 =>
            intro g2 cap2 w4 hcap2 hown2 hgr2
            have b4 := BE.out.grown hgr2 hsA (fun k hk => by cases hk; exact Nat.le_refl _)
            have B4 := Lib.hid b4
            have O2 := Lib.hid hown2
            clear hown2 hgr2 b4 hsA OE RA BE
            go_wp2_with fail
            refine (big_any v s _ hv (by omega)).mono ?_
            rintro e w5 ⟨z, rfl, hz, hb5⟩
            have OZ := Lib.hid hz
            have O5 := Lib.hid (World.ownsRow.belowB O2.out hb5)
            have B5 := Lib.hid (B4.out.trans (hb5.mono B4.out.size))
            have HRL := Lib.hid (bg_length s v)
            clear hz hb5 O2
            go_wp2_with fail
            go_loopw [15] (fun i wq => i = .int .i64 0 ∧ wq = w5) (fun _ _ => 0)
            case atStart => exact ⟨rfl, rfl⟩
            case round =>
              obtain ⟨rfl, rfl⟩ := hrel
              have k1 := conv_rd _ 22 9 5 Try.underlying22 Try.underlying5 Try.underlying9 _ _ (RC.out.below B5.out)
              have k2 := conv_rd _ 22 9 5 Try.underlying22 Try.underlying5 Try.underlying9 _ _ (Rd.own O5.out)
              have k3 := conv_rd _ 22 9 5 Try.underlying22 Try.underlying5 Try.underlying9 _ _ (RX.out.below B5.out)
              have k4 := conv_rd _ 22 9 5 Try.underlying22 Try.underlying5 Try.underlying9 _ _ ((HR.out.below BW.out).below B5.out)
              have k5 := conv_rd _ 22 9 5 Try.underlying22 Try.underlying5 Try.underlying9 _ _ (Rd.own OZ.out)
              rw [HPUT.out] at k1
              rw [str_append] at k3
              have bq := Lib.hid (BW.out.trans (B5.out.mono BW.out.size))
              have hss : (str bs).size + (str (bg s v)).size ≤ 9223372036854775807 := str_sizes _ _ (by rw [← HL.out]; exact h1) (by rw [HRL.out]; exact hs8.2)
              generalize str bs = S2 at k1 k2 k3 k4 hss
              generalize str (bg s v) = S3 at k3 k5 hss
              clear O5 OZ B5 B4 RC RX BW HPUT
              go_wp2
              go_roundw
              case rel => exact ⟨j + 1, by omega, by go_num, bq.out⟩
              case measure => simp [intOf]; omega
          · have hn3 := not_there2 len s at0 hgood hn
            by_cases hn2 : (len : Int) < at0
            · clear hgood hn3
              go_wp2_with (at_builtin; refine wpList_fresh rfl (.tmp 72) (.tmp 73) rfl wc.heap.size _ rfl OE.out (by intro h; cases h) a len cap bs rfl RA.out HN.out ?ff2 ?ff3 ?ff4)
              case ff2 => omega
              try (case ff3 => exact hsA)
              case ff4 =>
              intro g2 cap2 w4 hcap2 hown2 hgr2
              have b4 := BE.out.grown hgr2 hsA (fun k hk => by cases hk; exact Nat.le_refl _)
              have B4 := Lib.hid b4
              have O2 := Lib.hid hown2
              clear hown2 hgr2 b4 hsA OE RA BE
              go_wp2_with fail
              refine (big_any v s _ hv (by omega)).mono ?_
              rintro e w5 ⟨z, rfl, hz, hb5⟩
              have OZ := Lib.hid hz
              have O5 := Lib.hid (World.ownsRow.belowB O2.out hb5)
              have B5 := Lib.hid (B4.out.trans (hb5.mono B4.out.size))
              have HRL := Lib.hid (bg_length s v)
              clear hz hb5 O2
              go_wp2_with fail
              go_loopw [15] (fun i wq => i = .int .i64 0 ∧ wq = w5) (fun _ _ => 0)
              case atStart => exact ⟨rfl, rfl⟩
              case round =>
                obtain ⟨rfl, rfl⟩ := hrel
                have k1 := conv_rd _ 22 9 5 Try.underlying22 Try.underlying5 Try.underlying9 _ _ (RC.out.below B5.out)
                have k2 := conv_rd _ 22 9 5 Try.underlying22 Try.underlying5 Try.underlying9 _ _ (Rd.own O5.out)
                have k3 := conv_rd _ 22 9 5 Try.underlying22 Try.underlying5 Try.underlying9 _ _ (RX.out.below B5.out)
                have k4 := conv_rd _ 22 9 5 Try.underlying22 Try.underlying5 Try.underlying9 _ _ ((HR.out.below BW.out).below B5.out)
                have k5 := conv_rd _ 22 9 5 Try.underlying22 Try.underlying5 Try.underlying9 _ _ (Rd.own OZ.out)
                rw [HPUT.out] at k1
                rw [str_append] at k3
                have bq := Lib.hid (BW.out.trans (B5.out.mono BW.out.size))
                have hss : (str bs).size + (str (bg s v)).size ≤ 9223372036854775807 := str_sizes _ _ (by rw [← HL.out]; exact h1) (by rw [HRL.out]; exact hs8.2)
                generalize str bs = S2 at k1 k2 k3 k4 hss
                generalize str (bg s v) = S3 at k3 k5 hss
                clear O5 OZ B5 B4 RC RX BW HPUT
                go_wp2
                go_roundw
                case rel => exact ⟨j + 1, by omega, by go_num, bq.out⟩
                case measure => simp [intOf]; omega
            · clear hgood
              go_wp2_with (at_builtin; refine wpList_fresh rfl (.tmp 72) (.tmp 73) rfl wc.heap.size _ rfl OE.out (by intro h; cases h) a len cap bs rfl RA.out HN.out ?gg2 ?gg3 ?gg4)
              case gg2 => omega
              try (case gg3 => exact hsA)
              case gg4 =>
              intro g2 cap2 w4 hcap2 hown2 hgr2
              have b4 := BE.out.grown hgr2 hsA (fun k hk => by cases hk; exact Nat.le_refl _)
              have B4 := Lib.hid b4
              have O2 := Lib.hid hown2
              clear hown2 hgr2 b4 hsA OE RA BE
              go_wp2_with fail
              refine (big_any v s _ hv (by omega)).mono ?_
              rintro e w5 ⟨z, rfl, hz, hb5⟩
              have OZ := Lib.hid hz
              have O5 := Lib.hid (World.ownsRow.belowB O2.out hb5)
              have B5 := Lib.hid (B4.out.trans (hb5.mono B4.out.size))
              have HRL := Lib.hid (bg_length s v)
              clear hz hb5 O2
              go_wp2_with fail
              go_loopw [15] (fun i wq => i = .int .i64 0 ∧ wq = w5) (fun _ _ => 0)
              case atStart => exact ⟨rfl, rfl⟩
              case round =>
                obtain ⟨rfl, rfl⟩ := hrel
                have k1 := conv_rd _ 22 9 5 Try.underlying22 Try.underlying5 Try.underlying9 _ _ (RC.out.below B5.out)
                have k2 := conv_rd _ 22 9 5 Try.underlying22 Try.underlying5 Try.underlying9 _ _ (Rd.own O5.out)
                have k3 := conv_rd _ 22 9 5 Try.underlying22 Try.underlying5 Try.underlying9 _ _ (RX.out.below B5.out)
                have k4 := conv_rd _ 22 9 5 Try.underlying22 Try.underlying5 Try.underlying9 _ _ ((HR.out.below BW.out).below B5.out)
                have k5 := conv_rd _ 22 9 5 Try.underlying22 Try.underlying5 Try.underlying9 _ _ (Rd.own OZ.out)
                rw [HPUT.out] at k1
                rw [str_append] at k3
                have bq := Lib.hid (BW.out.trans (B5.out.mono BW.out.size))
                have hss : (str bs).size + (str (bg s v)).size ≤ 9223372036854775807 := str_sizes _ _ (by rw [← HL.out]; exact h1) (by rw [HRL.out]; exact hs8.2)
                generalize str bs = S2 at k1 k2 k3 k4 hss
                generalize str (bg s v) = S3 at k3 k5 hss
                clear O5 OZ B5 B4 RC RX BW HPUT
                go_wp2
                go_roundw
                case rel => exact ⟨j + 1, by omega, by go_num, bq.out⟩
                case measure => simp [intOf]; omega
    · obtain rfl : j = 4 := by omega
      clear hj hlt
      have hBB := Lib.hid hB
      clear hB
      go_wp2_with fail
      refine (awake_any _).mono ?_
      rintro e w2 ⟨rfl, hb2⟩
      go_wp2
      go_ret
      exact ⟨rfl, hBB.out.trans (hb2.mono hBB.out.size)⟩
theorem puts_walk (a : Option Addr) (len cap : Nat) (bs : List Nat) (at0 : Int) (v : Nat) (w : World) (hr : Rd w (.slice a len cap) (nus .u8 bs)) (hn : a = none → len = 0 ∧ cap = 0) (hb : ∀ c ∈ bs, c < 256) (hat : -9223372036854775808 ≤ at0 ∧ at0 ≤ 9223372036854775807) (hv : v < 18446744073709551616) :
    Calls Try.prog 4 #[.slice a len cap, .int .i64 at0, .int .u64 v] w fun e w' => e = .returned (.bool true) ∧ Below w.heap.size w w' := by
  by_cases h : 200 < len
  · have hl := hr.le
    obtain ⟨_, cap', e, h1, h2, _⟩ := hr
    simp only [Value.slice.injEq] at e
    exact puts_walk_long a len cap at0 v w (by rw [e.2.1]; exact hl) h
  · exact puts_walk_short a len cap bs at0 v w hr hn hb hat hv (by omega)
end Go.Proofs.Yteepkefnighjoaa
