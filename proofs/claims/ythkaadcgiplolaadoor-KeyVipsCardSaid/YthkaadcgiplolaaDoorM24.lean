/- Texts that the walks of this seat lean on, put together. -/
import Derived.Lib.Bytealg
import Derived.Lib.BytesEntry
import Derived.Laws.Externs
import Derived.WalkKit
import Derived.Handy
import Derived.Test.YthkaadcgiplolaaDoorTk
import Derived.Test.YthkaadcgiplolaaDoorM13
import Derived.Test.YthkaadcgiplolaaDoorM23
namespace Go.Proofs.YthkaadcgiplolaaDoor
open Go.RowKit
def kdN (v : Bool) : Nat := if v then 6 else 4
theorem cellsA_at0 (v : Bool) (bs : List Nat) : (cellsA v bs)[0]? = some (.bool v) := by simp [cellsA]
set_option maxRecDepth 100000 in
theorem kindOf_any (v : Bool) (D : List Nat) (w : World) : Calls Tryd.prog 30 #[adr v D] w fun e w' => e = .returned (.int .u8 (kdN v : Nat)) ∧ Below w.heap.size w w' := by
  unfold adr
  have hc := ((Blk.new w 24 (cellsA v D)).cell 0).trans (cellsA_at0 v D)
  generalize cellsA v D = c at *
  cases v <;> go_enter Tryd.func30, Tryd.ntmps30 <;> go_wp2 <;> go_ret <;> exact ⟨rfl, (Below.refl _ w).alloc (Nat.le_refl _) _⟩
def pnB (p : Nat) : ByteArray := if p = 17 then ⟨#[117, 100, 112]⟩ else ⟨#[116, 99, 112]⟩
set_option maxRecDepth 100000 in
theorem protoName_any (p : Nat) (w : World) : Calls Tryd.prog 36 #[.int .u8 (p : Int)] w fun e w' => e = .returned (.string (pnB p)) ∧ w = w' := by
  by_cases h : p = 17
  · subst h
    go_enter Tryd.func36, Tryd.ntmps36
    go_wp2
    go_ret
    exact ⟨rfl, rfl⟩
  · have g1 : ((p : Int) == 17) = false := by rw [beq_eq_false_iff_ne]; omega
    rw [show pnB p = ⟨#[116, 99, 112]⟩ from if_neg h]
    go_enter Tryd.func36, Tryd.ntmps36
    go_wp2
    go_ret
    exact ⟨rfl, rfl⟩
set_option maxRecDepth 100000 in
theorem addrSize_any (x : Value) (zs : List Nat) (w : World) (h : Rd w x (nus .u8 zs)) :
    Calls Tryd.prog 23 #[x] w fun e w' => e = .returned (.tuple #[.int .i64 ((if zs.getD 1 0 = 4 then 4 else if zs.getD 1 0 = 6 then 16 else 0 : Nat) : Int), .bool (decide (zs.getD 1 0 = 4) || decide (zs.getD 1 0 = 6))]) ∧ w = w' := by
  obtain ⟨a, cap, rfl, hlc, hlm⟩ := rd_shape h
  by_cases h2 : zs.length < 2
  · have e1 : zs.getD 1 0 = 0 := by rw [List.getD_eq_getElem?_getD, List.getElem?_eq_none (by omega)]; rfl
    rw [e1]
    generalize zs.length = n at *
    have g1 : decide ((n : Int) < 2) = true := by rw [decide_eq_true_iff]; omega
    clear h e1
    go_enter Tryd.func23, Tryd.ntmps23
    go_wp2
    go_ret2
    exact ⟨rfl, rfl⟩
  · obtain ⟨b, off, rfl, hc⟩ := h.cells (by omega)
    have c1 := hc 1 (by omega)
    generalize zs.getD 1 0 = y at *
    generalize zs.length = n at *
    have g1 : decide ((n : Int) < 2) = false := by rw [decide_eq_false_iff_not]; omega
    have g2 : 2 ≤ n := by omega
    clear h hc h2
    by_cases h4 : y = 4
    · subst h4
      go_enter Tryd.func23, Tryd.ntmps23
      go_wp2
      go_ret2
      exact ⟨rfl, rfl⟩
    by_cases h6 : y = 6
    · subst h6
      go_enter Tryd.func23, Tryd.ntmps23
      go_wp2
      go_ret2
      exact ⟨rfl, rfl⟩
    have k4 : ((y : Int) == 4) = false := by rw [beq_eq_false_iff_ne]; omega
    have k6 : ((y : Int) == 6) = false := by rw [beq_eq_false_iff_ne]; omega
    rw [if_neg h4, if_neg h6, decide_eq_false h4, decide_eq_false h6]
    clear h4 h6
    go_enter Tryd.func23, Tryd.ntmps23
    go_wp2
    go_ret2
    exact ⟨rfl, rfl⟩
def cmpN (a b : List Nat) : Int := Lib.compareBytes (a.map UInt8.ofNat) (b.map UInt8.ofNat)
theorem bytes_nats (zs : List Nat) : Lib.bytesOf (zs.map fun n : Nat => (n : Int)) = zs.map UInt8.ofNat := by
  unfold Lib.bytesOf
  rw [List.map_map]
  rfl
theorem run_bytesOf_rd {P : Program} (w : World) (v : Value) (zs : List Nat) (h : Rd w v (nus .u8 zs)) : (Extern.Bytes.bytesOf v).run P w = .ok (str zs) w := by
  obtain ⟨a, cap, rfl, hlc, hlm⟩ := rd_shape h
  by_cases h0 : zs = []
  · subst h0
    cases a with
    | none => rfl
    | some ad => rfl
  · obtain ⟨b, off, rfl, hc⟩ := h.cells (List.length_pos_iff.2 h0)
    have hl := Lib.run_loadBytesX (P := P) w (zs.map fun n : Nat => (n : Int)) ⟨b, off, none⟩ .empty (fun j x hj => by
      have hjl : j < zs.length := by simpa using (List.getElem?_eq_some_iff.1 hj).1
      have e : (⟨b, off, none⟩ : Addr).add j = ⟨b, off + j, none⟩ := by unfold Addr.add; split <;> simp_all
      rw [e, hc j hjl, List.getD_eq_getElem?_getD]
      rw [List.getElem?_map] at hj
      cases hz : zs[j]? with
      | none => rw [hz] at hj; cases hj
      | some y => rw [hz] at hj; cases hj; rfl)
    rw [List.length_map, bytes_nats] at hl
    have he : (⟨ByteArray.empty.data ++ (zs.map UInt8.ofNat).toArray⟩ : ByteArray) = str zs := by
      apply ByteArray.ext
      show (#[] : Array UInt8) ++ (zs.map UInt8.ofNat).toArray = (zs.map UInt8.ofNat).toArray
      simp
    rw [he] at hl
    exact hl
theorem run_compare_rd {P : Program} (w : World) (v1 v2 : Value) (a b : List Nat) (h1 : Rd w v1 (nus .u8 a)) (h2 : Rd w v2 (nus .u8 b)) : (Extern.BytealgCompare.compare #[v1, v2]).run P w = .ok (.int .i64 (cmpN a b)) w := by
  change Sem.run P (do pure (goInt (Extern.BytealgCompare.cmp (← Extern.Bytes.bytesOf v1) (← Extern.Bytes.bytesOf v2)))) w = _
  simp only [Sem.run_bind, Sem.run_pure, Result.andThen, run_bytesOf_rd w v1 a h1, run_bytesOf_rd w v2 b h2]
  rw [Lib.cmp_eq]
  rfl
set_option maxRecDepth 100000 in
theorem compare_any (v1 v2 : Value) (a b : List Nat) (w : World) (h1 : Rd w v1 (nus .u8 a)) (h2 : Rd w v2 (nus .u8 b)) :
    Calls Tryd.prog 35 #[v1, v2] w fun e w' => e = .returned (.int .i64 (cmpN a b)) ∧ w = w' := by
  have C := run_compare_rd (P := Tryd.prog) w v1 v2 a b h1 h2
  clear h1 h2
  go_enter Tryd.func35, Tryd.ntmps35
  go_wp2
  rw [run_callFunc_extern Tryd.func45 (by kernel_rfl) (by kernel_rfl) (by kernel_rfl) (e := Extern.BytealgCompare.compare) (by kernel_rfl), C]
  simp only [Result.andThen]
  rw [Oper.upon_value]
  go_wp2
  go_ret
  exact ⟨rfl, rfl⟩
end Go.Proofs.YthkaadcgiplolaaDoor
