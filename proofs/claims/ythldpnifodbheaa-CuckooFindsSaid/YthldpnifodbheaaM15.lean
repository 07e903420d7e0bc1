/- Texts that the walks of this seat lean on, put together. -/
import Derived.Lib.Bytealg
import Derived.Lib.BytesEntry
import Derived.Laws.Externs
import Derived.WalkKit
import Derived.Handy
import Derived.Test.YthldpnifodbheaaTk
import Derived.Test.YthldpnifodbheaaTl
import Derived.Test.YthldpnifodbheaaM10
import Derived.Test.YthldpnifodbheaaM12
namespace Go.Proofs.Ythldpnifodbheaa
open Go.RowKit
def kdN (v : Bool) : Nat := if v then 6 else 4
set_option maxRecDepth 100000 in
theorem cellsA_at0 (v : Bool) (bs : List Nat) : (cellsA v bs)[0]? = some (.bool v) := by simp [cellsA]
set_option maxRecDepth 100000 in
theorem kindOf_any (v : Bool) (D : List Nat) (w : World) : Calls Try.prog 80 #[adr v D] w fun e w' => e = .returned (.int .u8 (kdN v : Nat)) ∧ Below w.heap.size w w' := by
  unfold adr
  have hc := ((Blk.new w 26 (cellsA v D)).cell 0).trans (cellsA_at0 v D)
  generalize cellsA v D = c at *
  cases v <;> go_enter Try.func80, Try.ntmps80 <;> go_wp2 <;> go_ret <;> exact ⟨rfl, (Below.refl _ w).alloc (Nat.le_refl _) _⟩
def cmpN (a b : List Nat) : Int := Lib.compareBytes (a.map UInt8.ofNat) (b.map UInt8.ofNat)
set_option maxRecDepth 100000 in
theorem bytes_nats (zs : List Nat) : Lib.bytesOf (zs.map fun n : Nat => (n : Int)) = zs.map UInt8.ofNat := by
  unfold Lib.bytesOf
  rw [List.map_map]
  rfl
set_option maxRecDepth 100000 in
theorem run_bytesOf_rd {P : Program} (w : World) (v : Value) (zs : List Nat) (h : Rd w v (nus .u8 zs)) : (Extern.Bytes.bytesOf v).run P w = .ok (str zs) w := by
  obtain ⟨a, cap, rfl, hlc, hlm⟩ := rd_shape h
  by_cases h0 : zs = []
  · subst h0
    cases a with
    | none => rfl
    | some ad => rfl
  · obtain ⟨b, off, rfl, hc⟩ := h.cells (List.length_pos_iff.2 h0)
    have hl := Lib.run_loadBytesX (P := P) w (zs.map fun n : Nat => (n : Int)) ⟨b, off, none⟩ .empty (fun j x hj => by
      have hjl : j < zs.length := by simpa using (List.getElem?_eq_some_iff.1 hj).1
      have e : (⟨b, off, none⟩ : Addr).add j = ⟨b, off + j, none⟩ := by unfold Addr.add; split <;> simp_all
      rw [e, hc j hjl, List.getD_eq_getElem?_getD]
      rw [List.getElem?_map] at hj
      cases hz : zs[j]? with
      | none => rw [hz] at hj; cases hj
      | some y => rw [hz] at hj; cases hj; rfl)
    rw [List.length_map, bytes_nats] at hl
    have he : (⟨ByteArray.empty.data ++ (zs.map UInt8.ofNat).toArray⟩ : ByteArray) = str zs := by
      apply ByteArray.ext
      show (#[] : Array UInt8) ++ (zs.map UInt8.ofNat).toArray = (zs.map UInt8.ofNat).toArray
      simp
    rw [he] at hl
    exact hl
set_option maxRecDepth 100000 in
theorem run_compare_rd {P : Program} (w : World) (v1 v2 : Value) (a b : List Nat) (h1 : Rd w v1 (nus .u8 a)) (h2 : Rd w v2 (nus .u8 b)) : (Extern.BytealgCompare.compare #[v1, v2]).run P w = .ok (.int .i64 (cmpN a b)) w := by
  change Sem.run P (do pure (goInt (Extern.BytealgCompare.cmp (← Extern.Bytes.bytesOf v1) (← Extern.Bytes.bytesOf v2)))) w = _
  simp only [Sem.run_bind, Sem.run_pure, Result.andThen, run_bytesOf_rd w v1 a h1, run_bytesOf_rd w v2 b h2]
  rw [Lib.cmp_eq]
  rfl
set_option maxRecDepth 100000 in
theorem compare_any (v1 v2 : Value) (a b : List Nat) (w : World) (h1 : Rd w v1 (nus .u8 a)) (h2 : Rd w v2 (nus .u8 b)) :
    Calls Try.prog 67 #[v1, v2] w fun e w' => e = .returned (.int .i64 (cmpN a b)) ∧ w = w' := by
  have C := run_compare_rd (P := Try.prog) w v1 v2 a b h1 h2
  clear h1 h2
  go_enter Try.func67, Try.ntmps67
  go_wp2
  rw [run_callFunc_extern Try.func79 (by kernel_rfl) (by kernel_rfl) (by kernel_rfl) (e := Extern.BytealgCompare.compare) (by kernel_rfl), C]
  simp only [Result.andThen]
  rw [Oper.upon_value]
  go_wp2
  go_ret
  exact ⟨rfl, rfl⟩
end Go.Proofs.Ythldpnifodbheaa
