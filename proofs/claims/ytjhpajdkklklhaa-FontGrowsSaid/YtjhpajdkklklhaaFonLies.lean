/- Fonts of package api in memory. -/
import Derived.Test.YtjhpajdkklklhaaGen
import Derived.Test.YtjhpajdkklklhaaFonMath
namespace Go.Proofs.Ytjhpajdkklklhaa.Fon
open Go Go.RowKit Go.ChangeShapes Go.WideShapes By

/-- the glyphs that lie from this address on -/
def GlsAt (w : World) (n0 : Nat) (A : Option Addr) (l : List Gl) : Prop := l = [] ∨ ∃ b off, A = some ⟨b, off, none⟩ ∧ b < n0 ∧ ∀ j (h : j < l.length),
  w.cell? ⟨b, off + j * 6, none⟩ = some (.string l[j].name) ∧ w.cell? ⟨b, off + j * 6 + 1, none⟩ = some (.int .i64 l[j].W) ∧ w.cell? ⟨b, off + j * 6 + 2, none⟩ = some (.int .i64 l[j].H) ∧
  w.cell? ⟨b, off + j * 6 + 3, none⟩ = some (.int .i64 l[j].D) ∧ w.cell? ⟨b, off + j * 6 + 4, none⟩ = some (.int .i64 l[j].I) ∧ w.cell? ⟨b, off + j * 6 + 5, none⟩ = some (.int .i64 l[j].A)
theorem GlsAt.keep {w w' : World} {n0 : Nat} {A : Option Addr} {l : List Gl} (h : GlsAt w n0 A l) (hc : ∀ b o x, b < n0 → w.cell? ⟨b, o, none⟩ = some x → w'.cell? ⟨b, o, none⟩ = some x) : GlsAt w' n0 A l := by
  rcases h with h | ⟨b, off, h1, h2, h3⟩
  · exact .inl h
  · refine .inr ⟨b, off, h1, h2, fun j hj => ?_⟩
    obtain ⟨a0, a1, a2, a3, a4, a5⟩ := h3 j hj
    exact ⟨hc _ _ _ h2 a0, hc _ _ _ h2 a1, hc _ _ _ h2 a2, hc _ _ _ h2 a3, hc _ _ _ h2 a4, hc _ _ _ h2 a5⟩
theorem GlsAt.mono {w : World} {n0 n1 : Nat} {A : Option Addr} {l : List Gl} (h : GlsAt w n0 A l) (hn : n0 ≤ n1) : GlsAt w n1 A l := by
  rcases h with h | ⟨b, off, h1, h2, h3⟩
  · exact .inl h
  · exact .inr ⟨b, off, h1, by omega, h3⟩
theorem GlsAt.below {w w' : World} {A : Option Addr} {l : List Gl} (h : GlsAt w w.heap.size A l) (hb : Below w.heap.size w w') : GlsAt w' w'.heap.size A l :=
  (h.keep fun b o x hlt hx => (hb.cell (p := ⟨b, o, none⟩) hlt).trans hx).mono hb.size
theorem GlsAt.at {w : World} {n0 : Nat} {A : Option Addr} {l : List Gl} (h : GlsAt w n0 A l) {j : Nat} (hj : j < l.length) : ∃ b off, A = some ⟨b, off, none⟩ ∧ b < n0 ∧
    w.cell? ⟨b, off + j * 6, none⟩ = some (.string l[j].name) ∧ w.cell? ⟨b, off + j * 6 + 1, none⟩ = some (.int .i64 l[j].W) ∧ w.cell? ⟨b, off + j * 6 + 2, none⟩ = some (.int .i64 l[j].H) ∧
    w.cell? ⟨b, off + j * 6 + 3, none⟩ = some (.int .i64 l[j].D) ∧ w.cell? ⟨b, off + j * 6 + 4, none⟩ = some (.int .i64 l[j].I) ∧ w.cell? ⟨b, off + j * 6 + 5, none⟩ = some (.int .i64 l[j].A) := by
  rcases h with rfl | ⟨b, off, h1, h2, h3⟩
  · simp at hj
  · exact ⟨b, off, h1, h2, h3 j hj⟩
/-- the strings that lie from this address on -/
def StrsAt (w : World) (n0 : Nat) (A : Option Addr) (l : List ByteArray) : Prop := l = [] ∨ ∃ b off, A = some ⟨b, off, none⟩ ∧ b < n0 ∧ ∀ j (h : j < l.length), w.cell? ⟨b, off + j, none⟩ = some (.string l[j])
theorem StrsAt.keep {w w' : World} {n0 : Nat} {A : Option Addr} {l : List ByteArray} (h : StrsAt w n0 A l) (hc : ∀ b o x, b < n0 → w.cell? ⟨b, o, none⟩ = some x → w'.cell? ⟨b, o, none⟩ = some x) : StrsAt w' n0 A l := by
  rcases h with h | ⟨b, off, h1, h2, h3⟩
  · exact .inl h
  · exact .inr ⟨b, off, h1, h2, fun j hj => hc _ _ _ h2 (h3 j hj)⟩
theorem StrsAt.mono {w : World} {n0 n1 : Nat} {A : Option Addr} {l : List ByteArray} (h : StrsAt w n0 A l) (hn : n0 ≤ n1) : StrsAt w n1 A l := by
  rcases h with h | ⟨b, off, h1, h2, h3⟩
  · exact .inl h
  · exact .inr ⟨b, off, h1, by omega, h3⟩
theorem StrsAt.below {w w' : World} {A : Option Addr} {l : List ByteArray} (h : StrsAt w w.heap.size A l) (hb : Below w.heap.size w w') : StrsAt w' w'.heap.size A l :=
  (h.keep fun b o x hlt hx => (hb.cell (p := ⟨b, o, none⟩) hlt).trans hx).mono hb.size
theorem StrsAt.at {w : World} {n0 : Nat} {A : Option Addr} {l : List ByteArray} (h : StrsAt w n0 A l) {j : Nat} (hj : j < l.length) : ∃ b off, A = some ⟨b, off, none⟩ ∧ b < n0 ∧ w.cell? ⟨b, off + j, none⟩ = some (.string l[j]) := by
  rcases h with rfl | ⟨b, off, h1, h2, h3⟩
  · simp at hj
  · exact ⟨b, off, h1, h2, h3 j hj⟩
/-- the parts that lie from this address on -/
def PasAt (w : World) (n0 : Nat) (A : Option Addr) (l : List Pa) : Prop := l = [] ∨ ∃ b off, A = some ⟨b, off, none⟩ ∧ b < n0 ∧ ∀ j (h : j < l.length), w.cell? ⟨b, off + j * 2, none⟩ = some (.string l[j].name) ∧ w.cell? ⟨b, off + j * 2 + 1, none⟩ = some (.bool l[j].ext)
theorem PasAt.keep {w w' : World} {n0 : Nat} {A : Option Addr} {l : List Pa} (h : PasAt w n0 A l) (hc : ∀ b o x, b < n0 → w.cell? ⟨b, o, none⟩ = some x → w'.cell? ⟨b, o, none⟩ = some x) : PasAt w' n0 A l := by
  rcases h with h | ⟨b, off, h1, h2, h3⟩
  · exact .inl h
  · exact .inr ⟨b, off, h1, h2, fun j hj => ⟨hc _ _ _ h2 (h3 j hj).1, hc _ _ _ h2 (h3 j hj).2⟩⟩
theorem PasAt.mono {w : World} {n0 n1 : Nat} {A : Option Addr} {l : List Pa} (h : PasAt w n0 A l) (hn : n0 ≤ n1) : PasAt w n1 A l := by
  rcases h with h | ⟨b, off, h1, h2, h3⟩
  · exact .inl h
  · exact .inr ⟨b, off, h1, by omega, h3⟩
theorem PasAt.below {w w' : World} {A : Option Addr} {l : List Pa} (h : PasAt w w.heap.size A l) (hb : Below w.heap.size w w') : PasAt w' w'.heap.size A l :=
  (h.keep fun b o x hlt hx => (hb.cell (p := ⟨b, o, none⟩) hlt).trans hx).mono hb.size
theorem PasAt.at {w : World} {n0 : Nat} {A : Option Addr} {l : List Pa} (h : PasAt w n0 A l) {j : Nat} (hj : j < l.length) : ∃ b off, A = some ⟨b, off, none⟩ ∧ b < n0 ∧ w.cell? ⟨b, off + j * 2, none⟩ = some (.string l[j].name) ∧ w.cell? ⟨b, off + j * 2 + 1, none⟩ = some (.bool l[j].ext) := by
  rcases h with rfl | ⟨b, off, h1, h2, h3⟩
  · simp at hj
  · exact ⟨b, off, h1, h2, h3 j hj⟩
/-- the slices of a stretch -/
def StIn (w : World) (n0 : Nat) (s : St) (A B : Option Addr) : Prop := StrsAt w n0 A s.sizes ∧ PasAt w n0 B s.parts
theorem StIn.keep {w w' : World} {n0 : Nat} {s : St} {A B : Option Addr} (h : StIn w n0 s A B) (hc : ∀ b o x, b < n0 → w.cell? ⟨b, o, none⟩ = some x → w'.cell? ⟨b, o, none⟩ = some x) : StIn w' n0 s A B := ⟨h.1.keep hc, h.2.keep hc⟩
theorem StIn.below {w w' : World} {s : St} {A B : Option Addr} (h : StIn w w.heap.size s A B) (hb : Below w.heap.size w w') : StIn w' w'.heap.size s A B := ⟨h.1.below hb, h.2.below hb⟩
/-- the stretches that lie from this address on -/
def StsAt (w : World) (n0 : Nat) (A : Option Addr) (l : List St) : Prop := l = [] ∨ ∃ b off, A = some ⟨b, off, none⟩ ∧ b < n0 ∧ ∀ j (h : j < l.length), ∃ (B : Option Addr) (c : Nat) (C : Option Addr) (d : Nat),
  w.cell? ⟨b, off + j * 4, none⟩ = some (.string l[j].name) ∧ w.cell? ⟨b, off + j * 4 + 1, none⟩ = some (.slice B l[j].sizes.length c) ∧ w.cell? ⟨b, off + j * 4 + 2, none⟩ = some (.slice C l[j].parts.length d) ∧
  w.cell? ⟨b, off + j * 4 + 3, none⟩ = some (.int .i64 l[j].ov) ∧ StIn w n0 l[j] B C
theorem StsAt.keep {w w' : World} {n0 : Nat} {A : Option Addr} {l : List St} (h : StsAt w n0 A l) (hc : ∀ b o x, b < n0 → w.cell? ⟨b, o, none⟩ = some x → w'.cell? ⟨b, o, none⟩ = some x) : StsAt w' n0 A l := by
  rcases h with h | ⟨b, off, h1, h2, h3⟩
  · exact .inl h
  · refine .inr ⟨b, off, h1, h2, fun j hj => ?_⟩
    obtain ⟨B, c, C, d, a0, a1, a2, a3, a4⟩ := h3 j hj
    exact ⟨B, c, C, d, hc _ _ _ h2 a0, hc _ _ _ h2 a1, hc _ _ _ h2 a2, hc _ _ _ h2 a3, a4.keep hc⟩
theorem StsAt.mono {w : World} {n0 n1 : Nat} {A : Option Addr} {l : List St} (h : StsAt w n0 A l) (hn : n0 ≤ n1) : StsAt w n1 A l := by
  rcases h with h | ⟨b, off, h1, h2, h3⟩
  · exact .inl h
  · refine .inr ⟨b, off, h1, by omega, fun j hj => ?_⟩
    obtain ⟨B, c, C, d, a0, a1, a2, a3, a4⟩ := h3 j hj
    exact ⟨B, c, C, d, a0, a1, a2, a3, a4.1.mono hn, a4.2.mono hn⟩
theorem StsAt.below {w w' : World} {A : Option Addr} {l : List St} (h : StsAt w w.heap.size A l) (hb : Below w.heap.size w w') : StsAt w' w'.heap.size A l :=
  (h.keep fun b o x hlt hx => (hb.cell (p := ⟨b, o, none⟩) hlt).trans hx).mono hb.size
theorem StsAt.at {w : World} {n0 : Nat} {A : Option Addr} {l : List St} (h : StsAt w n0 A l) {j : Nat} (hj : j < l.length) : ∃ b off, ∃ (B : Option Addr) (c : Nat) (C : Option Addr) (d : Nat), A = some ⟨b, off, none⟩ ∧ b < n0 ∧
    w.cell? ⟨b, off + j * 4, none⟩ = some (.string l[j].name) ∧ w.cell? ⟨b, off + j * 4 + 1, none⟩ = some (.slice B l[j].sizes.length c) ∧ w.cell? ⟨b, off + j * 4 + 2, none⟩ = some (.slice C l[j].parts.length d) ∧
    w.cell? ⟨b, off + j * 4 + 3, none⟩ = some (.int .i64 l[j].ov) ∧ StIn w n0 l[j] B C := by
  rcases h with rfl | ⟨b, off, h1, h2, h3⟩
  · simp at hj
  · obtain ⟨B, c, C, d, h⟩ := h3 j hj
    exact ⟨b, off, B, c, C, d, h1, h2, h⟩
/-- six cells of a block of one's own are written -/
theorem set6_cells {w : World} {B : Nat} {y0 y1 y2 y3 y4 y5 : Value} (h0 : w.cell? ⟨B, 0, none⟩ = some y0) (h1 : w.cell? ⟨B, 1, none⟩ = some y1) (h2 : w.cell? ⟨B, 2, none⟩ = some y2) (h3 : w.cell? ⟨B, 3, none⟩ = some y3) (h4 : w.cell? ⟨B, 4, none⟩ = some y4) (h5 : w.cell? ⟨B, 5, none⟩ = some y5) (x0 x1 x2 x3 x4 x5 : Value) {w' : World}
    (hw : w' = (((((w.setCell ⟨B, 0, none⟩ x0).setCell ⟨B, 1, none⟩ x1).setCell ⟨B, 2, none⟩ x2).setCell ⟨B, 3, none⟩ x3).setCell ⟨B, 4, none⟩ x4).setCell ⟨B, 5, none⟩ x5) :
    w'.cell? ⟨B, 0, none⟩ = some x0 ∧ w'.cell? ⟨B, 1, none⟩ = some x1 ∧ w'.cell? ⟨B, 2, none⟩ = some x2 ∧ w'.cell? ⟨B, 3, none⟩ = some x3 ∧ w'.cell? ⟨B, 4, none⟩ = some x4 ∧ w'.cell? ⟨B, 5, none⟩ = some x5 := by
  have ne : ∀ {p q : Nat}, p ≠ q → (⟨B, p, none⟩ : Addr) ≠ ⟨B, q, none⟩ := fun h e => h (by injection e)
  have o : ∀ {u : World} {p q : Nat} {x y : Value}, p ≠ q → u.cell? ⟨B, q, none⟩ = some y → (u.setCell ⟨B, p, none⟩ x).cell? ⟨B, q, none⟩ = some y := fun h e => (World.cell?_setCell_other _ _ _ _ (ne h)).trans e
  have s : ∀ {u : World} {p : Nat} {x y : Value}, u.cell? ⟨B, p, none⟩ = some y → (u.setCell ⟨B, p, none⟩ x).cell? ⟨B, p, none⟩ = some x := fun e => World.cell?_setCell_same _ _ _ e
  subst hw
  refine ⟨o (by omega) (o (by omega) (o (by omega) (o (by omega) (o (by omega) (s h0))))), o (by omega) (o (by omega) (o (by omega) (o (by omega) (s (o (by omega) h1))))), o (by omega) (o (by omega) (o (by omega) (s (o (by omega) (o (by omega) h2))))),
    o (by omega) (o (by omega) (s (o (by omega) (o (by omega) (o (by omega) h3))))), o (by omega) (s (o (by omega) (o (by omega) (o (by omega) (o (by omega) h4))))), s (o (by omega) (o (by omega) (o (by omega) (o (by omega) (o (by omega) h5)))))⟩
theorem below_set6 {n : Nat} {a w : World} (h : Below n a w) {B : Nat} (hB : n ≤ B) (x0 x1 x2 x3 x4 x5 : Value) :
    Below n a ((((((w.setCell ⟨B, 0, none⟩ x0).setCell ⟨B, 1, none⟩ x1).setCell ⟨B, 2, none⟩ x2).setCell ⟨B, 3, none⟩ x3).setCell ⟨B, 4, none⟩ x4).setCell ⟨B, 5, none⟩ x5) := (((((h.setCell hB _).setCell hB _).setCell hB _).setCell hB _).setCell hB _).setCell hB _
/-- four cells -/
theorem set4_cells {w : World} {B : Nat} {y0 y1 y2 y3 : Value} (h0 : w.cell? ⟨B, 0, none⟩ = some y0) (h1 : w.cell? ⟨B, 1, none⟩ = some y1) (h2 : w.cell? ⟨B, 2, none⟩ = some y2) (h3 : w.cell? ⟨B, 3, none⟩ = some y3) (x0 x1 x2 x3 : Value) {w' : World}
    (hw : w' = (((w.setCell ⟨B, 0, none⟩ x0).setCell ⟨B, 1, none⟩ x1).setCell ⟨B, 2, none⟩ x2).setCell ⟨B, 3, none⟩ x3) :
    w'.cell? ⟨B, 0, none⟩ = some x0 ∧ w'.cell? ⟨B, 1, none⟩ = some x1 ∧ w'.cell? ⟨B, 2, none⟩ = some x2 ∧ w'.cell? ⟨B, 3, none⟩ = some x3 := by
  have ne : ∀ {p q : Nat}, p ≠ q → (⟨B, p, none⟩ : Addr) ≠ ⟨B, q, none⟩ := fun h e => h (by injection e)
  have o : ∀ {u : World} {p q : Nat} {x y : Value}, p ≠ q → u.cell? ⟨B, q, none⟩ = some y → (u.setCell ⟨B, p, none⟩ x).cell? ⟨B, q, none⟩ = some y := fun h e => (World.cell?_setCell_other _ _ _ _ (ne h)).trans e
  have s : ∀ {u : World} {p : Nat} {x y : Value}, u.cell? ⟨B, p, none⟩ = some y → (u.setCell ⟨B, p, none⟩ x).cell? ⟨B, p, none⟩ = some x := fun e => World.cell?_setCell_same _ _ _ e
  subst hw
  exact ⟨o (by omega) (o (by omega) (o (by omega) (s h0))), o (by omega) (o (by omega) (s (o (by omega) h1))), o (by omega) (s (o (by omega) (o (by omega) h2))), s (o (by omega) (o (by omega) (o (by omega) h3)))⟩
theorem below_set4 {n : Nat} {a w : World} (h : Below n a w) {B : Nat} (hB : n ≤ B) (x0 x1 x2 x3 : Value) :
    Below n a ((((w.setCell ⟨B, 0, none⟩ x0).setCell ⟨B, 1, none⟩ x1).setCell ⟨B, 2, none⟩ x2).setCell ⟨B, 3, none⟩ x3) := (((h.setCell hB _).setCell hB _).setCell hB _).setCell hB _
/-- what lies in blocks below one that is written stays -/
theorem cell_set4 {w : World} {B b o : Nat} {x : Value} (hne : b ≠ B) (h : w.cell? ⟨b, o, none⟩ = some x) (x0 x1 x2 x3 : Value) :
    ((((w.setCell ⟨B, 0, none⟩ x0).setCell ⟨B, 1, none⟩ x1).setCell ⟨B, 2, none⟩ x2).setCell ⟨B, 3, none⟩ x3).cell? ⟨b, o, none⟩ = some x := by
  have ne : ∀ q, (⟨B, q, none⟩ : Addr) ≠ ⟨b, o, none⟩ := fun q e => hne (by injection e with e1 _; exact e1.symm)
  rw [World.cell?_setCell_other _ _ _ _ (ne 3), World.cell?_setCell_other _ _ _ _ (ne 2), World.cell?_setCell_other _ _ _ _ (ne 1), World.cell?_setCell_other _ _ _ _ (ne 0)]
  exact h
def zeroS : St := { name := ⟨#[]⟩, sizes := [], parts := [], ov := 0 }
end Go.Proofs.Ytjhpajdkklklhaa.Fon
