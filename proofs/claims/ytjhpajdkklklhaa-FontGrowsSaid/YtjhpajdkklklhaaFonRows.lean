/- Fonts: glyphs, strings, parts and stretches as rows of cells. -/
import Derived.Test.YtjhpajdkklklhaaRow
import Derived.Test.YtjhpajdkklklhaaFonLies
namespace Go.Proofs.Ytjhpajdkklklhaa.Fon
open Go Go.RowKit By

def encG (g : Gl) : List Value := [.string g.name, .int .i64 g.W, .int .i64 g.H, .int .i64 g.D, .int .i64 g.I, .int .i64 g.A]
def encS (s : ByteArray) : List Value := [.string s]
def encP (p : Pa) : List Value := [.string p.name, .bool p.ext]
theorem encG_len (g : Gl) : (encG g).length = 6 := rfl
theorem encS_len (s : ByteArray) : (encS s).length = 1 := rfl
theorem encP_len (p : Pa) : (encP p).length = 2 := rfl
theorem encG_one : ∀ x, ∀ u ∈ encG x, u.oneCell' = true := fun x u hu => by simp [encG] at hu; rcases hu with rfl | rfl | rfl | rfl | rfl | rfl <;> rfl
theorem encS_one : ∀ x, ∀ u ∈ encS x, u.oneCell' = true := fun x u hu => by simp [encS] at hu; subst hu; rfl
theorem encP_one : ∀ x, ∀ u ∈ encP x, u.oneCell' = true := fun x u hu => by simp [encP] at hu; rcases hu with rfl | rfl <;> rfl
theorem GlsAt.src {w : World} {n0 : Nat} {a : Addr} {l : List Gl} (h : GlsAt w n0 (some a) l) : ∀ j u, (l.flatMap encG)[j]? = some u → w.cell? (a.add j) = some u := fun j u hj => by
  obtain ⟨i, o, hi, ho, rfl, h2⟩ := flat_at encG_len hj
  obtain ⟨b, off, e, _, x0, x1, x2, x3, x4, x5⟩ := h.at hi
  injection e with e
  subst e
  rw [Go.WideShapes.add_plain]
  have : o = 0 ∨ o = 1 ∨ o = 2 ∨ o = 3 ∨ o = 4 ∨ o = 5 := by omega
  rcases this with rfl | rfl | rfl | rfl | rfl | rfl <;> (obtain rfl := Option.some.inj h2; first | exact x0 | (rw [← Nat.add_assoc]; first | exact x1 | exact x2 | exact x3 | exact x4 | exact x5))
theorem StrsAt.src {w : World} {n0 : Nat} {a : Addr} {l : List ByteArray} (h : StrsAt w n0 (some a) l) : ∀ j u, (l.flatMap encS)[j]? = some u → w.cell? (a.add j) = some u := fun j u hj => by
  obtain ⟨i, o, hi, ho, rfl, h2⟩ := flat_at encS_len hj
  obtain ⟨b, off, e, _, x0⟩ := h.at hi
  injection e with e
  subst e
  rw [Go.WideShapes.add_plain]
  obtain rfl : o = 0 := by omega
  obtain rfl := Option.some.inj h2
  rw [Nat.mul_one]; exact x0
theorem PasAt.src {w : World} {n0 : Nat} {a : Addr} {l : List Pa} (h : PasAt w n0 (some a) l) : ∀ j u, (l.flatMap encP)[j]? = some u → w.cell? (a.add j) = some u := fun j u hj => by
  obtain ⟨i, o, hi, ho, rfl, h2⟩ := flat_at encP_len hj
  obtain ⟨b, off, e, _, x0, x1⟩ := h.at hi
  injection e with e
  subst e
  rw [Go.WideShapes.add_plain]
  have : o = 0 ∨ o = 1 := by omega
  rcases this with rfl | rfl <;> (obtain rfl := Option.some.inj h2; first | exact x0 | (rw [← Nat.add_assoc]; exact x1))
theorem gls_own {w : World} {base : Nat} {ty : TypeId} {A : Option Addr} {n c : Nat} {l : List Gl} (h : w.ownsRow base ty 6 (.slice A n c) l.length (l.flatMap encG)) : n = l.length ∧ GlsAt w w.heap.size A l := by
  rcases own_row h with ⟨e, h0⟩ | ⟨g, cap, e, _, hg, hc⟩
  · injection e with e1 e2 e3
    exact ⟨by omega, .inl (List.eq_nil_of_length_eq_zero h0)⟩
  · injection e with e1 e2 e3
    refine ⟨e2, .inr ⟨g, 0, e1, hg, fun j hj => ?_⟩⟩
    have f : ∀ o v, o < 6 → (encG l[j])[o]? = some v → w.cell? ⟨g, 0 + j * 6 + o, none⟩ = some v := fun o v ho hv => by
      rw [Nat.zero_add]; exact hc _ _ (by rw [flat_get encG_len l j o hj ho]; exact hv)
    exact ⟨f 0 _ (by omega) rfl, f 1 _ (by omega) rfl, f 2 _ (by omega) rfl, f 3 _ (by omega) rfl, f 4 _ (by omega) rfl, f 5 _ (by omega) rfl⟩
theorem strs_own {w : World} {base : Nat} {ty : TypeId} {A : Option Addr} {n c : Nat} {l : List ByteArray} (h : w.ownsRow base ty 1 (.slice A n c) l.length (l.flatMap encS)) : n = l.length ∧ StrsAt w w.heap.size A l := by
  rcases own_row h with ⟨e, h0⟩ | ⟨g, cap, e, _, hg, hc⟩
  · injection e with e1 e2 e3
    exact ⟨by omega, .inl (List.eq_nil_of_length_eq_zero h0)⟩
  · injection e with e1 e2 e3
    refine ⟨e2, .inr ⟨g, 0, e1, hg, fun j hj => ?_⟩⟩
    rw [Nat.zero_add]
    refine hc _ _ ?_
    have := flat_get encS_len l j 0 hj (by omega)
    rw [Nat.mul_one, Nat.add_zero] at this
    rw [this]; rfl
theorem pas_own {w : World} {base : Nat} {ty : TypeId} {A : Option Addr} {n c : Nat} {l : List Pa} (h : w.ownsRow base ty 2 (.slice A n c) l.length (l.flatMap encP)) : n = l.length ∧ PasAt w w.heap.size A l := by
  rcases own_row h with ⟨e, h0⟩ | ⟨g, cap, e, _, hg, hc⟩
  · injection e with e1 e2 e3
    exact ⟨by omega, .inl (List.eq_nil_of_length_eq_zero h0)⟩
  · injection e with e1 e2 e3
    refine ⟨e2, .inr ⟨g, 0, e1, hg, fun j hj => ?_⟩⟩
    have f : ∀ o v, o < 2 → (encP l[j])[o]? = some v → w.cell? ⟨g, 0 + j * 2 + o, none⟩ = some v := fun o v ho hv => by
      rw [Nat.zero_add]; exact hc _ _ (by rw [flat_get encP_len l j o hj ho]; exact hv)
    exact ⟨f 0 _ (by omega) rfl, f 1 _ (by omega) rfl⟩
theorem StrsAt.far {w w' : World} {n0 n1 K : Nat} {A : Option Addr} {l : List ByteArray} (h : StrsAt w n0 A l) (hA : ∀ a, A = some a → K ≤ a.block) (hn : n0 ≤ n1) (hc : ∀ b o x, K ≤ b → w.cell? ⟨b, o, none⟩ = some x → w'.cell? ⟨b, o, none⟩ = some x) : StrsAt w' n1 A l := by
  rcases h with h | ⟨b, off, h1, h2, h3⟩
  · exact .inl h
  · exact .inr ⟨b, off, h1, by omega, fun j hj => hc _ _ _ (hA _ h1) (h3 j hj)⟩
theorem PasAt.far {w w' : World} {n0 n1 K : Nat} {A : Option Addr} {l : List Pa} (h : PasAt w n0 A l) (hA : ∀ a, A = some a → K ≤ a.block) (hn : n0 ≤ n1) (hc : ∀ b o x, K ≤ b → w.cell? ⟨b, o, none⟩ = some x → w'.cell? ⟨b, o, none⟩ = some x) : PasAt w' n1 A l := by
  rcases h with h | ⟨b, off, h1, h2, h3⟩
  · exact .inl h
  · exact .inr ⟨b, off, h1, by omega, fun j hj => ⟨hc _ _ _ (hA _ h1) (h3 j hj).1, hc _ _ _ (hA _ h1) (h3 j hj).2⟩⟩
end Go.Proofs.Ytjhpajdkklklhaa.Fon
