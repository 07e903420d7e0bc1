/- Texts that the walks of this seat lean on, put together. -/
import Derived.KernelRfl
import Derived.Test.YtblkpnjmmdbgnaaTk
import Derived.Test.YtblkpnjmmdbgnaaM32
namespace Go.Proofs.Ytblkpnjmmdbgnaa
open Go.RowKit
theorem set_st (c : Cf) (h : c.Fit) (v : Int) : c.cs.setIfInBounds 0 (.int .i64 v) = Cf.cs { c with st := v } := by
  obtain ⟨b0, b1, b2, b3, b4, b5, b6, b7, b8, b9, b10, b11, b12, b13, b14, b15, e⟩ := list16 c.O h.lO
  obtain ⟨d0, d1, d2, d3, d4, d5, d6, d7, d8, d9, d10, d11, d12, d13, d14, d15, e2⟩ := list16 c.X h.lX
  unfold Cf.cs ccells
  simp only
  rw [e, e2]
  kernel_rfl
theorem fit_st (c : Cf) (h : c.Fit) (v : Int) : Cf.Fit { c with st := v } := ⟨h.1, h.2, h.3, h.4, h.5⟩
theorem ok_st (c : Cf) (h : okC c = true) (v : Int) : okC { c with st := v } = wi v 1 4 := by
  unfold okC at h
  simp only [Bool.and_eq_true] at h
  obtain ⟨h0, h1, h2, h3, h4, h5, h6, h7, h8, h9, h10, h11, h12⟩ := h
  show (wi v 1 4 && (pw c.sz 2 1024 && (wi c.dg 1 16 && (pw c.bl 8 65536 && (wi c.hs 1 4 && (wi c.sl 1 64 && (wi c.vs 2 16 && (wi c.qu 1 256 && (wi c.ev 1 64 && (wi c.id 1 1000 && (wi c.li 1 1000 && (wi c.fa 1 10 && okO c)))))))))))) = _
  rw [h1, h2, h3, h4, h5, h6, h7, h8, h9, h10, h11, h12]
  cases wi v 1 4 <;> rfl
theorem set_sz (c : Cf) (h : c.Fit) (v : Int) : c.cs.setIfInBounds 1 (.int .i64 v) = Cf.cs { c with sz := v } := by
  obtain ⟨b0, b1, b2, b3, b4, b5, b6, b7, b8, b9, b10, b11, b12, b13, b14, b15, e⟩ := list16 c.O h.lO
  obtain ⟨d0, d1, d2, d3, d4, d5, d6, d7, d8, d9, d10, d11, d12, d13, d14, d15, e2⟩ := list16 c.X h.lX
  unfold Cf.cs ccells
  simp only
  rw [e, e2]
  kernel_rfl
theorem fit_sz (c : Cf) (h : c.Fit) (v : Int) : Cf.Fit { c with sz := v } := ⟨h.1, h.2, h.3, h.4, h.5⟩
theorem ok_sz (c : Cf) (h : okC c = true) (v : Int) : okC { c with sz := v } = pw v 2 1024 := by
  unfold okC at h
  simp only [Bool.and_eq_true] at h
  obtain ⟨h0, h1, h2, h3, h4, h5, h6, h7, h8, h9, h10, h11, h12⟩ := h
  show (wi c.st 1 4 && (pw v 2 1024 && (wi c.dg 1 16 && (pw c.bl 8 65536 && (wi c.hs 1 4 && (wi c.sl 1 64 && (wi c.vs 2 16 && (wi c.qu 1 256 && (wi c.ev 1 64 && (wi c.id 1 1000 && (wi c.li 1 1000 && (wi c.fa 1 10 && okO c)))))))))))) = _
  rw [h0, h2, h3, h4, h5, h6, h7, h8, h9, h10, h11, h12]
  cases pw v 2 1024 <;> rfl
theorem set_dg (c : Cf) (h : c.Fit) (v : Int) : c.cs.setIfInBounds 2 (.int .i64 v) = Cf.cs { c with dg := v } := by
  obtain ⟨b0, b1, b2, b3, b4, b5, b6, b7, b8, b9, b10, b11, b12, b13, b14, b15, e⟩ := list16 c.O h.lO
  obtain ⟨d0, d1, d2, d3, d4, d5, d6, d7, d8, d9, d10, d11, d12, d13, d14, d15, e2⟩ := list16 c.X h.lX
  unfold Cf.cs ccells
  simp only
  rw [e, e2]
  kernel_rfl
theorem fit_dg (c : Cf) (h : c.Fit) (v : Int) : Cf.Fit { c with dg := v } := ⟨h.1, h.2, h.3, h.4, h.5⟩
theorem ok_dg (c : Cf) (h : okC c = true) (v : Int) : okC { c with dg := v } = wi v 1 16 := by
  unfold okC at h
  simp only [Bool.and_eq_true] at h
  obtain ⟨h0, h1, h2, h3, h4, h5, h6, h7, h8, h9, h10, h11, h12⟩ := h
  show (wi c.st 1 4 && (pw c.sz 2 1024 && (wi v 1 16 && (pw c.bl 8 65536 && (wi c.hs 1 4 && (wi c.sl 1 64 && (wi c.vs 2 16 && (wi c.qu 1 256 && (wi c.ev 1 64 && (wi c.id 1 1000 && (wi c.li 1 1000 && (wi c.fa 1 10 && okO c)))))))))))) = _
  rw [h0, h1, h3, h4, h5, h6, h7, h8, h9, h10, h11, h12]
  cases wi v 1 16 <;> rfl
theorem set_bl (c : Cf) (h : c.Fit) (v : Int) : c.cs.setIfInBounds 3 (.int .i64 v) = Cf.cs { c with bl := v } := by
  obtain ⟨b0, b1, b2, b3, b4, b5, b6, b7, b8, b9, b10, b11, b12, b13, b14, b15, e⟩ := list16 c.O h.lO
  obtain ⟨d0, d1, d2, d3, d4, d5, d6, d7, d8, d9, d10, d11, d12, d13, d14, d15, e2⟩ := list16 c.X h.lX
  unfold Cf.cs ccells
  simp only
  rw [e, e2]
  kernel_rfl
theorem fit_bl (c : Cf) (h : c.Fit) (v : Int) : Cf.Fit { c with bl := v } := ⟨h.1, h.2, h.3, h.4, h.5⟩
theorem ok_bl (c : Cf) (h : okC c = true) (v : Int) : okC { c with bl := v } = pw v 8 65536 := by
  unfold okC at h
  simp only [Bool.and_eq_true] at h
  obtain ⟨h0, h1, h2, h3, h4, h5, h6, h7, h8, h9, h10, h11, h12⟩ := h
  show (wi c.st 1 4 && (pw c.sz 2 1024 && (wi c.dg 1 16 && (pw v 8 65536 && (wi c.hs 1 4 && (wi c.sl 1 64 && (wi c.vs 2 16 && (wi c.qu 1 256 && (wi c.ev 1 64 && (wi c.id 1 1000 && (wi c.li 1 1000 && (wi c.fa 1 10 && okO c)))))))))))) = _
  rw [h0, h1, h2, h4, h5, h6, h7, h8, h9, h10, h11, h12]
  cases pw v 8 65536 <;> rfl
theorem set_hs (c : Cf) (h : c.Fit) (v : Int) : c.cs.setIfInBounds 4 (.int .i64 v) = Cf.cs { c with hs := v } := by
  obtain ⟨b0, b1, b2, b3, b4, b5, b6, b7, b8, b9, b10, b11, b12, b13, b14, b15, e⟩ := list16 c.O h.lO
  obtain ⟨d0, d1, d2, d3, d4, d5, d6, d7, d8, d9, d10, d11, d12, d13, d14, d15, e2⟩ := list16 c.X h.lX
  unfold Cf.cs ccells
  simp only
  rw [e, e2]
  kernel_rfl
theorem fit_hs (c : Cf) (h : c.Fit) (v : Int) : Cf.Fit { c with hs := v } := ⟨h.1, h.2, h.3, h.4, h.5⟩
theorem ok_hs (c : Cf) (h : okC c = true) (v : Int) : okC { c with hs := v } = wi v 1 4 := by
  unfold okC at h
  simp only [Bool.and_eq_true] at h
  obtain ⟨h0, h1, h2, h3, h4, h5, h6, h7, h8, h9, h10, h11, h12⟩ := h
  show (wi c.st 1 4 && (pw c.sz 2 1024 && (wi c.dg 1 16 && (pw c.bl 8 65536 && (wi v 1 4 && (wi c.sl 1 64 && (wi c.vs 2 16 && (wi c.qu 1 256 && (wi c.ev 1 64 && (wi c.id 1 1000 && (wi c.li 1 1000 && (wi c.fa 1 10 && okO c)))))))))))) = _
  rw [h0, h1, h2, h3, h5, h6, h7, h8, h9, h10, h11, h12]
  cases wi v 1 4 <;> rfl
theorem set_sl (c : Cf) (h : c.Fit) (v : Int) : c.cs.setIfInBounds 5 (.int .i64 v) = Cf.cs { c with sl := v } := by
  obtain ⟨b0, b1, b2, b3, b4, b5, b6, b7, b8, b9, b10, b11, b12, b13, b14, b15, e⟩ := list16 c.O h.lO
  obtain ⟨d0, d1, d2, d3, d4, d5, d6, d7, d8, d9, d10, d11, d12, d13, d14, d15, e2⟩ := list16 c.X h.lX
  unfold Cf.cs ccells
  simp only
  rw [e, e2]
  kernel_rfl
theorem fit_sl (c : Cf) (h : c.Fit) (v : Int) : Cf.Fit { c with sl := v } := ⟨h.1, h.2, h.3, h.4, h.5⟩
theorem ok_sl (c : Cf) (h : okC c = true) (v : Int) : okC { c with sl := v } = wi v 1 64 := by
  unfold okC at h
  simp only [Bool.and_eq_true] at h
  obtain ⟨h0, h1, h2, h3, h4, h5, h6, h7, h8, h9, h10, h11, h12⟩ := h
  show (wi c.st 1 4 && (pw c.sz 2 1024 && (wi c.dg 1 16 && (pw c.bl 8 65536 && (wi c.hs 1 4 && (wi v 1 64 && (wi c.vs 2 16 && (wi c.qu 1 256 && (wi c.ev 1 64 && (wi c.id 1 1000 && (wi c.li 1 1000 && (wi c.fa 1 10 && okO c)))))))))))) = _
  rw [h0, h1, h2, h3, h4, h6, h7, h8, h9, h10, h11, h12]
  cases wi v 1 64 <;> rfl
theorem set_vs (c : Cf) (h : c.Fit) (v : Int) : c.cs.setIfInBounds 6 (.int .i64 v) = Cf.cs { c with vs := v } := by
  obtain ⟨b0, b1, b2, b3, b4, b5, b6, b7, b8, b9, b10, b11, b12, b13, b14, b15, e⟩ := list16 c.O h.lO
  obtain ⟨d0, d1, d2, d3, d4, d5, d6, d7, d8, d9, d10, d11, d12, d13, d14, d15, e2⟩ := list16 c.X h.lX
  unfold Cf.cs ccells
  simp only
  rw [e, e2]
  kernel_rfl
theorem fit_vs (c : Cf) (h : c.Fit) (v : Int) : Cf.Fit { c with vs := v } := ⟨h.1, h.2, h.3, h.4, h.5⟩
theorem ok_vs (c : Cf) (h : okC c = true) (v : Int) : okC { c with vs := v } = wi v 2 16 := by
  unfold okC at h
  simp only [Bool.and_eq_true] at h
  obtain ⟨h0, h1, h2, h3, h4, h5, h6, h7, h8, h9, h10, h11, h12⟩ := h
  show (wi c.st 1 4 && (pw c.sz 2 1024 && (wi c.dg 1 16 && (pw c.bl 8 65536 && (wi c.hs 1 4 && (wi c.sl 1 64 && (wi v 2 16 && (wi c.qu 1 256 && (wi c.ev 1 64 && (wi c.id 1 1000 && (wi c.li 1 1000 && (wi c.fa 1 10 && okO c)))))))))))) = _
  rw [h0, h1, h2, h3, h4, h5, h7, h8, h9, h10, h11, h12]
  cases wi v 2 16 <;> rfl
theorem set_qu (c : Cf) (h : c.Fit) (v : Int) : c.cs.setIfInBounds 7 (.int .i64 v) = Cf.cs { c with qu := v } := by
  obtain ⟨b0, b1, b2, b3, b4, b5, b6, b7, b8, b9, b10, b11, b12, b13, b14, b15, e⟩ := list16 c.O h.lO
  obtain ⟨d0, d1, d2, d3, d4, d5, d6, d7, d8, d9, d10, d11, d12, d13, d14, d15, e2⟩ := list16 c.X h.lX
  unfold Cf.cs ccells
  simp only
  rw [e, e2]
  kernel_rfl
theorem fit_qu (c : Cf) (h : c.Fit) (v : Int) : Cf.Fit { c with qu := v } := ⟨h.1, h.2, h.3, h.4, h.5⟩
theorem ok_qu (c : Cf) (h : okC c = true) (v : Int) : okC { c with qu := v } = wi v 1 256 := by
  unfold okC at h
  simp only [Bool.and_eq_true] at h
  obtain ⟨h0, h1, h2, h3, h4, h5, h6, h7, h8, h9, h10, h11, h12⟩ := h
  show (wi c.st 1 4 && (pw c.sz 2 1024 && (wi c.dg 1 16 && (pw c.bl 8 65536 && (wi c.hs 1 4 && (wi c.sl 1 64 && (wi c.vs 2 16 && (wi v 1 256 && (wi c.ev 1 64 && (wi c.id 1 1000 && (wi c.li 1 1000 && (wi c.fa 1 10 && okO c)))))))))))) = _
  rw [h0, h1, h2, h3, h4, h5, h6, h8, h9, h10, h11, h12]
  cases wi v 1 256 <;> rfl
theorem set_ev (c : Cf) (h : c.Fit) (v : Int) : c.cs.setIfInBounds 8 (.int .i64 v) = Cf.cs { c with ev := v } := by
  obtain ⟨b0, b1, b2, b3, b4, b5, b6, b7, b8, b9, b10, b11, b12, b13, b14, b15, e⟩ := list16 c.O h.lO
  obtain ⟨d0, d1, d2, d3, d4, d5, d6, d7, d8, d9, d10, d11, d12, d13, d14, d15, e2⟩ := list16 c.X h.lX
  unfold Cf.cs ccells
  simp only
  rw [e, e2]
  kernel_rfl
theorem fit_ev (c : Cf) (h : c.Fit) (v : Int) : Cf.Fit { c with ev := v } := ⟨h.1, h.2, h.3, h.4, h.5⟩
theorem ok_ev (c : Cf) (h : okC c = true) (v : Int) : okC { c with ev := v } = wi v 1 64 := by
  unfold okC at h
  simp only [Bool.and_eq_true] at h
  obtain ⟨h0, h1, h2, h3, h4, h5, h6, h7, h8, h9, h10, h11, h12⟩ := h
  show (wi c.st 1 4 && (pw c.sz 2 1024 && (wi c.dg 1 16 && (pw c.bl 8 65536 && (wi c.hs 1 4 && (wi c.sl 1 64 && (wi c.vs 2 16 && (wi c.qu 1 256 && (wi v 1 64 && (wi c.id 1 1000 && (wi c.li 1 1000 && (wi c.fa 1 10 && okO c)))))))))))) = _
  rw [h0, h1, h2, h3, h4, h5, h6, h7, h9, h10, h11, h12]
  cases wi v 1 64 <;> rfl
theorem set_id (c : Cf) (h : c.Fit) (v : Int) : c.cs.setIfInBounds 9 (.int .i64 v) = Cf.cs { c with id := v } := by
  obtain ⟨b0, b1, b2, b3, b4, b5, b6, b7, b8, b9, b10, b11, b12, b13, b14, b15, e⟩ := list16 c.O h.lO
  obtain ⟨d0, d1, d2, d3, d4, d5, d6, d7, d8, d9, d10, d11, d12, d13, d14, d15, e2⟩ := list16 c.X h.lX
  unfold Cf.cs ccells
  simp only
  rw [e, e2]
  kernel_rfl
theorem fit_id (c : Cf) (h : c.Fit) (v : Int) : Cf.Fit { c with id := v } := ⟨h.1, h.2, h.3, h.4, h.5⟩
theorem ok_id (c : Cf) (h : okC c = true) (v : Int) : okC { c with id := v } = wi v 1 1000 := by
  unfold okC at h
  simp only [Bool.and_eq_true] at h
  obtain ⟨h0, h1, h2, h3, h4, h5, h6, h7, h8, h9, h10, h11, h12⟩ := h
  show (wi c.st 1 4 && (pw c.sz 2 1024 && (wi c.dg 1 16 && (pw c.bl 8 65536 && (wi c.hs 1 4 && (wi c.sl 1 64 && (wi c.vs 2 16 && (wi c.qu 1 256 && (wi c.ev 1 64 && (wi v 1 1000 && (wi c.li 1 1000 && (wi c.fa 1 10 && okO c)))))))))))) = _
  rw [h0, h1, h2, h3, h4, h5, h6, h7, h8, h10, h11, h12]
  cases wi v 1 1000 <;> rfl
theorem set_li (c : Cf) (h : c.Fit) (v : Int) : c.cs.setIfInBounds 10 (.int .i64 v) = Cf.cs { c with li := v } := by
  obtain ⟨b0, b1, b2, b3, b4, b5, b6, b7, b8, b9, b10, b11, b12, b13, b14, b15, e⟩ := list16 c.O h.lO
  obtain ⟨d0, d1, d2, d3, d4, d5, d6, d7, d8, d9, d10, d11, d12, d13, d14, d15, e2⟩ := list16 c.X h.lX
  unfold Cf.cs ccells
  simp only
  rw [e, e2]
  kernel_rfl
theorem fit_li (c : Cf) (h : c.Fit) (v : Int) : Cf.Fit { c with li := v } := ⟨h.1, h.2, h.3, h.4, h.5⟩
theorem ok_li (c : Cf) (h : okC c = true) (v : Int) : okC { c with li := v } = wi v 1 1000 := by
  unfold okC at h
  simp only [Bool.and_eq_true] at h
  obtain ⟨h0, h1, h2, h3, h4, h5, h6, h7, h8, h9, h10, h11, h12⟩ := h
  show (wi c.st 1 4 && (pw c.sz 2 1024 && (wi c.dg 1 16 && (pw c.bl 8 65536 && (wi c.hs 1 4 && (wi c.sl 1 64 && (wi c.vs 2 16 && (wi c.qu 1 256 && (wi c.ev 1 64 && (wi c.id 1 1000 && (wi v 1 1000 && (wi c.fa 1 10 && okO c)))))))))))) = _
  rw [h0, h1, h2, h3, h4, h5, h6, h7, h8, h9, h11, h12]
  cases wi v 1 1000 <;> rfl
theorem set_fa (c : Cf) (h : c.Fit) (v : Int) : c.cs.setIfInBounds 11 (.int .i64 v) = Cf.cs { c with fa := v } := by
  obtain ⟨b0, b1, b2, b3, b4, b5, b6, b7, b8, b9, b10, b11, b12, b13, b14, b15, e⟩ := list16 c.O h.lO
  obtain ⟨d0, d1, d2, d3, d4, d5, d6, d7, d8, d9, d10, d11, d12, d13, d14, d15, e2⟩ := list16 c.X h.lX
  unfold Cf.cs ccells
  simp only
  rw [e, e2]
  kernel_rfl
theorem fit_fa (c : Cf) (h : c.Fit) (v : Int) : Cf.Fit { c with fa := v } := ⟨h.1, h.2, h.3, h.4, h.5⟩
theorem ok_fa (c : Cf) (h : okC c = true) (v : Int) : okC { c with fa := v } = wi v 1 10 := by
  unfold okC at h
  simp only [Bool.and_eq_true] at h
  obtain ⟨h0, h1, h2, h3, h4, h5, h6, h7, h8, h9, h10, h11, h12⟩ := h
  show (wi c.st 1 4 && (pw c.sz 2 1024 && (wi c.dg 1 16 && (pw c.bl 8 65536 && (wi c.hs 1 4 && (wi c.sl 1 64 && (wi c.vs 2 16 && (wi c.qu 1 256 && (wi c.ev 1 64 && (wi c.id 1 1000 && (wi c.li 1 1000 && (wi v 1 10 && okO c)))))))))))) = _
  rw [h0, h1, h2, h3, h4, h5, h6, h7, h8, h9, h10, h12]
  cases wi v 1 10 <;> rfl
end Go.Proofs.Ytblkpnjmmdbgnaa
