/- Contracts and plain facts for AddrTexts. -/
import Derived.Test.YtjcmidgeddhfoaaDoorAw
import Derived.Test.YtjcmidgeddhfoaaDoorStr
import Derived.Lib.ConvBytes
import Derived.Laws.AppendOwn
namespace Go.Proofs.YtjcmidgeddhfoaaDoor
open Go.RowKit Go.Lib

/-- The numbers of a string's bytes. -/
def nums (s : ByteArray) : List Nat := s.data.toList.map (·.toNat)
theorem nums_length (s : ByteArray) : (nums s).length = s.size := by unfold nums; rw [List.length_map]; rfl
theorem nums_lt (s : ByteArray) : ∀ n ∈ nums s, n < 256 := by
  intro n hn
  obtain ⟨x, _, rfl⟩ := List.mem_map.1 hn
  exact x.toNat_lt
/-- '[]byte(s)': a new row, that may be written up to its end. -/
theorem conv_mk (w : World) (s : ByteArray) (h : s.size ≤ 1000) : ∃ cap W1, (convert 9 32 (.string s)).run Tryd.prog w = .ok (.slice (some ⟨w.heap.size, 0, none⟩) s.size cap) W1 ∧ Below w.heap.size w W1 ∧ s.size ≤ cap ∧ cap ≤ maxLen ∧
    (∀ j, j < s.size → W1.frozen? ⟨w.heap.size, j, none⟩ = false) ∧ w.heap.size < W1.heap.size ∧ ∀ j, j < s.size → W1.cell? ⟨w.heap.size, j, none⟩ = some (.int .u8 ((nums s).getD j 0 : Int)) := by
  have hc := grownCap_ge w s.size 0 5
  have hs : (bytesCells w 5 s).size = grownCap w s.size 0 5 := by
    unfold bytesCells
    rw [Array.size_append, Array.size_map, Array.size_replicate]
    have : s.data.size = s.size := rfl
    omega
  refine ⟨grownCap w s.size 0 5, bytesWorld w 5 s, Go.Lib.run_convert_string_bytes w 9 32 5 s Tryd.underlying9 Tryd.underlying32 Tryd.underlying5, ?_, hc, grownCap_le_maxLen _ _ _ _ (by unfold maxLen; omega), ?_, ?_, ?_⟩
  · refine ⟨?_, ?_, ?_, by rw [bytesWorld_size]; omega, fun k hk => bytesWorld_at_old w 5 s k hk⟩
    all_goals
      unfold bytesWorld World.freeze
      split <;> rfl
  · intro j hj
    simp [World.frozen?, bytesWorld_at_new, hs]
    omega
  · rw [bytesWorld_size]; omega
  · intro j hj
    rw [bytesWorld_cell w 5 s j hj]
    have hj2 : j < s.data.toList.length := hj
    have e : (nums s).getD j 0 = (s.data.toList.getD j 0).toNat := by
      unfold nums
      rw [List.getD_eq_getElem?_getD, List.getD_eq_getElem?_getD, List.getElem?_map, List.getElem?_eq_getElem hj2]
      rfl
    rw [e]
theorem Rd.setc {w : World} {g n cap : Nat} {zs : List Nat} (h : Rd w (.slice (some ⟨g, 0, none⟩) n cap) (nus .u8 zs)) (j c : Nat) (hj : j < n) : Rd (w.setCell ⟨g, j, none⟩ (.int .u8 (c : Int))) (.slice (some ⟨g, 0, none⟩) n cap) (nus .u8 (zs.set j c)) := by
  obtain ⟨a', cap', e, h1, h2, h3⟩ := h
  simp only [Value.slice.injEq] at e
  obtain ⟨e1, rfl, rfl⟩ := e
  rw [nus_length] at h1 h3 hj ⊢
  refine ⟨some ⟨g, 0, none⟩, _, by rw [nus_length, List.length_set], by rw [nus_length, List.length_set]; exact h1, h2, ?_⟩
  rcases h3 with h3 | ⟨b, off, he, hb, hc⟩
  · have : zs.length = 0 := by rw [(nus_nil _ _).1 h3]; rfl
    omega
  · rw [← e1] at he
    cases he
    refine .inr ⟨g, 0, rfl, by simpa [World.setCell] using hb, fun i hi => ?_⟩
    rw [nus_length, List.length_set] at hi
    by_cases hij : i = j
    · subst hij
      have := hc i hi
      rw [Nat.zero_add] at this ⊢
      rw [nus_get _ _ _ hi] at this
      rw [World.cell?_setCell_same w _ _ this, nus_get _ _ _ (by rw [List.length_set]; exact hi)]
      simp [List.getD_eq_getElem?_getD, hi]
    · rw [World.cell?_setCell_other _ _ _ _ (fun e => hij (by cases e; omega))]
      rw [hc i hi, nus_get _ _ _ hi, nus_get _ _ _ (by rw [List.length_set]; exact hi)]
      simp [List.getD_eq_getElem?_getD, List.getElem?_set_ne (Ne.symm hij)]

theorem back (s : ByteArray) : (⟨s.data.toList.toArray⟩ : ByteArray) = s := by cases s; rfl
/-- What Parse tells, whatever the text; and that an address that was read has that text. -/
theorem parse_told (s : ByteArray) (hs : s.size ≤ 140737488355328) : ∃ c n, (∀ W, Env W → Calls Tryd.prog 8 #[.string s] W fun e w' => e = .returned (.tuple #[.agg c, .int .i64 n]) ∧ Below W.heap.size W w') ∧ c.size = 17 ∧ c.all (·.oneCell') = true ∧
    ((n = 0 ∧ ∀ W, Env W → Calls Tryd.prog 9 #[.agg c] W fun e w' => e = .returned (.string s) ∧ Below W.heap.size W w') ∨ (n = 2 ∧ c = cellsA false (List.replicate 16 0))) := by
  have h := fun W (hW : Env W) => parse_any s W hs hW
  rcases hp : parseA s.data.toList with _ | ⟨v, bs⟩
  · rw [hp] at h
    exact ⟨_, 2, h, rfl, cellsA_all _ _, .inr ⟨rfl, rfl⟩⟩
  · rw [hp] at h
    obtain ⟨hl, hb, ht⟩ := parseA_some hp
    refine ⟨_, 0, h, by rw [cellsA_size, hl], cellsA_all _ _, .inl ⟨rfl, fun W hW => ?_⟩⟩
    have ht2 := text_adr v bs hl hb W hW
    rw [ht, back] at ht2
    exact ht2
theorem parse_dot (s : ByteArray) (hs : s.size ≤ 1000) (W : World) (hW : Env W) : Calls Tryd.prog 8 #[.string (s ++ ⟨#[48, 46]⟩)] W fun e w' => e = .returned (.tuple #[.agg (cellsA false (List.replicate 16 0)), .int .i64 2]) ∧ Below W.heap.size W w' := by
  have hz : (s ++ ⟨#[48, 46]⟩ : ByteArray).size = s.size + 2 := by rw [ByteArray.size_append]; rfl
  have h := parse_any (s ++ ⟨#[48, 46]⟩) W (by rw [hz]; omega) hW
  have e : (s ++ ⟨#[48, 46]⟩ : ByteArray).data.toList = (s.data.toList ++ [48]) ++ [46] := by
    rw [ByteArray.data_append]; simp
  rw [e, parseA_point] at h
  exact h
theorem text_pos (v : Bool) (bs : List Nat) (hl : bs.length = 16) (hb : ∀ n ∈ bs, n < 256) : 0 < (textA v bs).length := by
  unfold textA
  split
  · rw [text6_length]; omega
  · obtain ⟨b0, b1, b2, b3, b4, b5, b6, b7, b8, b9, b10, b11, b12, b13, b14, b15, rfl⟩ := list16 bs hl
    show 0 < (text4 [b0, b1, b2, b3]).length
    simp only [text4, List.length_append, List.length_cons]
    omega
theorem str_size (zs : List Nat) : (str zs).size = zs.length := by unfold str; simp [ByteArray.size]
end Go.Proofs.YtjcmidgeddhfoaaDoor
