/- Texts that the walks of this seat lean on, put together. -/
import Derived.Test.YtnpibdjfafpegaaTk
import Derived.Test.YtnpibdjfafpegaaM20
import Derived.Test.YtnpibdjfafpegaaM23
import Derived.Test.YtnpibdjfafpegaaM33
import Derived.Test.YtnpibdjfafpegaaM34
import Derived.Test.YtnpibdjfafpegaaM35
import Derived.Test.YtnpibdjfafpegaaM36
import Derived.Test.YtnpibdjfafpegaaM37
namespace Go.Proofs.Ytnpibdjfafpegaa
open Go.RowKit
theorem build_any (p : Nat) (hp : p = 6 ∨ p = 17) (v : Bool) (sb db : List Nat) (sp dp f pad : Nat) (a : Option Addr) (la ca : Nat) (zs : List Nat) (tag bare : Bool) (w : World) (hr : Rd w (.slice a la ca) (nus .u8 zs)) (hL : zs.length = la) (hna : a = none → ca = 0) (hb : ∀ c ∈ zs, c < 256) (hz : la ≤ 2000)
    (hl1 : sb.length = 16) (hl2 : db.length = 16) (hb1 : ∀ c ∈ sb, c < 256) (hb2 : ∀ c ∈ db, c < 256) (hv1 : vldA v sb = true) (hv2 : vldA v db = true) (hsp : sp < 65536) (hdp : dp < 65536) (hf : f < 256) (hpad : pad ≤ 100) :
    Calls Try.prog 8 #[.agg (kcells p (cellsA v sb) (cellsA v db) sp dp), .int .u8 (f : Int), .slice a la ca, .bool tag, .bool bare, .int .i64 (pad : Int)] w fun e w' => ∃ x n, e = .returned x ∧ w'.ownsRow w.heap.size 5 1 x n (nus .u8 (frmB v sb db p sp dp f zs tag bare pad)) ∧ Below w.heap.size w w' := by
  rcases hp with rfl | rfl
  · cases v
    · exact build_t4 sb db sp dp f pad a la ca zs tag bare w hr hL hna hb hz hl1 hl2 hb1 hb2 hv1 hv2 hsp hdp hf hpad
    · exact build_t6 sb db sp dp f pad a la ca zs tag bare w hr hL hna hb hz hl1 hl2 hb1 hb2 hv1 hv2 hsp hdp hf hpad
  · cases v <;> cases bare
    · exact build_u4 sb db sp dp f pad a la ca zs tag w hr hL hna hb hz hl1 hl2 hb1 hb2 hv1 hv2 hsp hdp hf hpad
    · exact build_b4 sb db sp dp f pad a la ca zs tag w hr hL hna hb hz hl1 hl2 hb1 hb2 hv1 hv2 hsp hdp hf hpad
    · exact build_u6 sb db sp dp f pad a la ca zs tag w hr hL hna hb hz hl1 hl2 hb1 hb2 hv1 hv2 hsp hdp hf hpad
    · exact build_b6 sb db sp dp f pad a la ca zs tag w hr hL hna hb hz hl1 hl2 hb1 hb2 hv1 hv2 hsp hdp hf hpad
theorem frmB_lt (v : Bool) (S D : List Nat) (p sp dp f : Nat) (data : List Nat) (tag bare : Bool) (pad : Nat) (hp : p < 256) (_hS : S.length = 16) (_hD : D.length = 16) (hb1 : ∀ c ∈ S, c < 256) (hb2 : ∀ c ∈ D, c < 256) (hf : f < 256) (hd : ∀ c ∈ data, c < 256) :
    ∀ c ∈ frmB v S D p sp dp f data tag bare pad, c < 256 := by
  intro c hc
  unfold frmB at hc
  simp only [List.mem_append] at hc
  rcases hc with ((h | h) | h) | h
  · unfold ethB at h; cases tag <;> cases v <;> simp at h <;> omega
  · unfold headB at h
    cases v with
    | true => exact mk6_lt S D p _ hb1 hb2 hp c h
    | false => exact ov_lt _ _ _ (mk0_lt (S.take 4) (D.take 4) p _ (fun c hc => hb1 c (List.mem_of_mem_take hc)) (fun c hc => hb2 c (List.mem_of_mem_take hc)) hp) (bg_lt 2 _) c h
  · exact segB_lt p v S D sp dp f data bare hf hd c h
  · have := (List.mem_replicate.1 h).2; omega
end Go.Proofs.Ytnpibdjfafpegaa
namespace Go.Proofs.Ytnpibdjfafpegaa
open Go.RowKit
def sV (u : Nat) : List Nat := kS u ++ List.replicate 12 0
def dV : List Nat := kD ++ List.replicate 12 0
theorem sV_len (u : Nat) : (sV u).length = 16 := rfl
theorem dV_len : dV.length = 16 := rfl
theorem sV_lt (u : Nat) : ∀ c ∈ sV u, c < 256 := by
  intro c hc
  rcases List.mem_append.1 hc with h | h
  · simp [kS] at h; omega
  · rw [List.eq_of_mem_replicate h]; omega
theorem dV_lt : ∀ c ∈ dV, c < 256 := by decide
theorem sV_v (v : Bool) (u : Nat) : vldA v (sV u) = true := by
  unfold vldA sV kS
  simp only [Bool.or_eq_true]
  right
  rfl
theorem dV_v (v : Bool) : vldA v dV = true := by cases v <;> rfl
def pr (udp : Bool) : Nat := if udp then 17 else 6
theorem pr_or (udp : Bool) : pr udp = 6 ∨ pr udp = 17 := by cases udp; exact .inl rfl; exact .inr rfl
def flow (u : Nat) (v udp : Bool) : Array Value := kcells (pr udp) (cellsA v (sV u)) (cellsA v dV) (1000 + u % 50000) 80
theorem flow_size (u : Nat) (v udp : Bool) : (flow u v udp).size = 37 := kcells_size _ _ _ _ _ (by rw [cellsA_size, sV_len]) (by rw [cellsA_size, dV_len])
theorem flow_all (u : Nat) (v udp : Bool) : (flow u v udp).all (·.oneCell') = true := kcells_all _ _ _ _ _ (cellsA_all _ _) (cellsA_all _ _)
theorem flow_any (n : Int) (v udp : Bool) (w : World) : Calls Try.prog 9 #[.int .i64 n, .bool v, .bool udp] w fun e w' => e = .returned (.agg (flow (n % 1073741824).toNat v udp)) ∧ Below w.heap.size w w' := key_any n v udp w
def fB8 (u : Nat) (v udp : Bool) (f : Nat) (data : List Nat) (tag bare : Bool) (R : List Nat) : List Nat := frR v (sV u) dV (pr udp) (1000 + u % 50000) 80 f data tag bare R
theorem fB8_told (u : Nat) (v udp : Bool) (f : Nat) (data : List Nat) (tag bare : Bool) (R : List Nat) (hl : data.length ≤ 1500) : Told8 v (sV u) dV (pr udp) (1000 + u % 50000) 80 f data tag bare R (fB8 u v udp f data tag bare R) :=
  told8 _ _ _ _ _ _ _ _ _ _ _ (pr_or udp) (sV_len u) dV_len (sV_v v u) (dV_v v) hl (by omega) (by omega)
theorem fB8_lt (u : Nat) (v udp : Bool) (f : Nat) (data : List Nat) (tag bare : Bool) (pad : Nat) (hf : f < 256) (hd : ∀ c ∈ data, c < 256) : ∀ c ∈ fB8 u v udp f data tag bare (List.replicate pad 0), c < 256 := by
  unfold fB8; rw [← frmB_R]
  exact frmB_lt v _ _ _ _ _ f data tag bare pad (by have := pr_or udp; omega) (sV_len u) dV_len (sV_lt u) dV_lt hf hd
theorem fB8_any (u : Nat) (v udp : Bool) (f : Nat) (pad : Nat) (a : Option Addr) (la ca : Nat) (zs : List Nat) (tag bare : Bool) (w : World) (hr : Rd w (.slice a la ca) (nus .u8 zs)) (hL : zs.length = la) (hna : a = none → ca = 0) (hb : ∀ c ∈ zs, c < 256) (hz : la ≤ 1500) (hf : f < 256) (hpad : pad ≤ 100) :
    Calls Try.prog 8 #[.agg (flow u v udp), .int .u8 (f : Int), .slice a la ca, .bool tag, .bool bare, .int .i64 (pad : Int)] w fun e w' => ∃ g c, e = .returned (.slice (some ⟨g, 0, none⟩) (fB8 u v udp f zs tag bare (List.replicate pad 0)).length c) ∧
      w'.ownsRow w.heap.size 5 1 (.slice (some ⟨g, 0, none⟩) (fB8 u v udp f zs tag bare (List.replicate pad 0)).length c) (fB8 u v udp f zs tag bare (List.replicate pad 0)).length (nus .u8 (fB8 u v udp f zs tag bare (List.replicate pad 0))) ∧ Below w.heap.size w w' := by
  refine (build_any (pr udp) (pr_or udp) v (sV u) dV (1000 + u % 50000) 80 f pad a la ca zs tag bare w hr hL hna hb (by omega) (sV_len u) dV_len (sV_lt u) dV_lt (sV_v v u) (dV_v v) (by omega) (by omega) hf hpad).mono ?_
  rintro e w' ⟨x, n, rfl, ho, hB⟩
  have e0 : frmB v (sV u) dV (pr udp) (1000 + u % 50000) 80 f zs tag bare pad = fB8 u v udp f zs tag bare (List.replicate pad 0) := frmB_R _ _ _ _ _ _ _ _ _ _ _
  rw [e0] at ho
  have hlen : (fB8 u v udp f zs tag bare (List.replicate pad 0)).length = n := by have := ho.1; rw [nus_length] at this; omega
  have ht := (fB8_told u v udp f zs tag bare (List.replicate pad 0) (by omega)).len
  subst hlen
  obtain ⟨g, c, rfl, -, -, -, -⟩ := own_at ho (by rw [ht]; unfold hN; split <;> omega)
  exact ⟨g, c, rfl, ho, hB⟩
end Go.Proofs.Ytnpibdjfafpegaa
namespace Go.Proofs.Ytnpibdjfafpegaa
open Go.RowKit
variable {F : List Nat} {x y s0 s1 s2 s3 : Nat} {SG : List Nat}
theorem set_right (A B : List Nat) (k v : Nat) (h : A.length ≤ k) : (A ++ B).set k v = A ++ B.set (k - A.length) v := by rw [List.set_append, if_neg (by omega)]
end Go.Proofs.Ytnpibdjfafpegaa
