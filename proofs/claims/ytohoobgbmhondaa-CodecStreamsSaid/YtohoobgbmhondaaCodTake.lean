/- take of the reader of package codec. -/
import Derived.Test.YtohoobgbmhondaaCodGrow
import Derived.Test.YtohoobgbmhondaaCodMath2
namespace Go.Proofs.Ytohoobgbmhondaa.Cod
open Go Go.RowKit

/-- the slice with this address is these bytes, in a block below n0 -/
def BytAt (w : World) (n0 : Nat) (A : Option Addr) (l : List UInt8) : Prop := l = [] ∨ ∃ g off, A = some ⟨g, off, none⟩ ∧ g < n0 ∧ ∀ j (h : j < l.length), w.cell? ⟨g, off + j, none⟩ = some (.int .u8 (l[j].toNat : Int))
theorem BytAt.keep {w w' : World} {n0 : Nat} {A : Option Addr} {l : List UInt8} (h : BytAt w n0 A l) (hc : ∀ b o x, b < n0 → w.cell? ⟨b, o, none⟩ = some x → w'.cell? ⟨b, o, none⟩ = some x) : BytAt w' n0 A l := by
  rcases h with h | ⟨g, off, h1, h2, h3⟩
  · exact .inl h
  · exact .inr ⟨g, off, h1, h2, fun j hj => hc _ _ _ h2 (h3 j hj)⟩
theorem BytAt.take {w : World} {n0 : Nat} {A : Option Addr} {l : List UInt8} (h : BytAt w n0 A l) (n : Nat) : BytAt w n0 A (l.take n) := by
  rcases h with rfl | ⟨g, off, h1, h2, h3⟩
  · exact .inl (by simp)
  · exact .inr ⟨g, off, h1, h2, fun j hj => by
      rw [List.length_take] at hj
      rw [List.getElem_take]
      exact h3 j (by omega)⟩
theorem BytAt.drop {w : World} {n0 g off : Nat} {l : List UInt8} (h : BytAt w n0 (some ⟨g, off, none⟩) l) (n : Nat) : BytAt w n0 (some ⟨g, off + n, none⟩) (l.drop n) := by
  rcases h with rfl | ⟨g', off', h1, h2, h3⟩
  · exact .inl (by simp)
  · injection h1 with h1
    injection h1 with h1 h4
    subst h1 h4
    exact .inr ⟨g, off + n, rfl, h2, fun j hj => by
      rw [List.length_drop] at hj
      rw [List.getElem_drop, Nat.add_assoc]
      exact h3 (n + j) (by omega)⟩
theorem BytAt.add {w : World} {n0 : Nat} {a : Addr} {l : List UInt8} (h : BytAt w n0 (some a) l) (n : Nat) : BytAt w n0 (some (a.add n)) (l.drop n) := by
  rcases h with rfl | ⟨g, off, h1, h2, h3⟩
  · exact .inl (by simp)
  · injection h1 with h1
    subst h1
    rw [Go.WideShapes.add_plain]
    exact BytAt.drop (.inr ⟨g, off, rfl, h2, h3⟩) n
/-- the reader in the block R has these bytes left -/
def Rd (w : World) (R : Nat) (l : List UInt8) : Prop := ∃ A c, w.cell? ⟨R, 0, none⟩ = some (.slice A l.length c) ∧ l.length ≤ c ∧ c ≤ 9223372036854775807 ∧ w.frozen? ⟨R, 0, none⟩ = false ∧ BytAt w R A l ∧ (A = none → c = 0)
theorem Rd.lt {w : World} {R : Nat} {l : List UInt8} (h : Rd w R l) : R < w.heap.size := by obtain ⟨A, c, h, _⟩ := h; exact World.block_lt_of_cell? _ _ h
theorem Rd.by_ {w w' : World} {R : Nat} {l : List UInt8} {row : Option Nat} (h : Rd w R l) (hg : w.grownBy w' row) (hrow : ∀ k, row = some k → R < k) : Rd w' R l := by
  have hR := h.lt
  obtain ⟨A, c, h1, h2, h3, h4, h5, h6⟩ := h
  have ne : ∀ b, b ≤ R → some b ≠ row := fun b hb e => by have := hrow b e.symm; omega
  exact ⟨A, c, hg.cell h1 (ne R (Nat.le_refl _)), h2, h3, (World.frozen?_of_block (hg.block R hR (ne R (Nat.le_refl _)))).trans h4, h5.keep fun b o x hb hx => hg.cell hx (ne b (Nat.le_of_lt hb)), h6⟩
theorem by_below {w w' : World} (hb : Below w.heap.size w w') (row : Option Nat) : w.grownBy w' row := ⟨hb.os, hb.tape, hb.output, hb.size, fun k hk _ => hb.block k hk⟩
theorem Rd.below {w w' : World} {R : Nat} {l : List UInt8} (h : Rd w R l) (hb : Below w.heap.size w w') : Rd w' R l := h.by_ (by_below hb none) (fun _ e => by cases e)
theorem by_comp {w0 w w' : World} {R : Option Nat} {row : Option Nat} (h : w0.grownBy w R) (g : w.grownBy w' row) (hrow : ∀ k, row = some k → w0.heap.size ≤ k) : w0.grownBy w' R :=
  ⟨g.os.trans h.os, g.tape.trans h.tape, g.output.trans h.output, Nat.le_trans h.size g.size, fun k hk hne => (g.block k (Nat.lt_of_lt_of_le hk h.size) (fun e => by have := hrow k e.symm; omega)).trans (h.block k hk hne)⟩
theorem by_set (w : World) (X o : Nat) (v : Value) : w.grownBy (w.setCell ⟨X, o, none⟩ v) (some X) := ⟨rfl, rfl, rfl, by simp, fun k _ hk => Go.Deep.blk_setCell_other _ _ _ _ (fun e => hk (by rw [e]))⟩
theorem by_trans {w0 w w' : World} {R : Option Nat} (h : w0.grownBy w R) (g : w.grownBy w' R) : w0.grownBy w' R := h.trans g
/-- the reader's new rest -/
theorem Rd.set {w : World} {R : Nat} {l m : List UInt8} {A : Option Addr} {c : Nat} (h : Rd w R l) (hm : m.length ≤ c) (hc : c ≤ 9223372036854775807) (hb : BytAt w R A m) (h0 : A = none → c = 0) : Rd (w.setCell ⟨R, 0, none⟩ (.slice A m.length c)) R m := by
  obtain ⟨A', c', h1, _, _, h4, _, _⟩ := h
  refine ⟨A, c, World.cell?_setCell_same _ _ _ h1, hm, hc, by rw [World.frozen?_setCell]; exact h4, hb.keep fun b o x hlt hx => ?_, h0⟩
  rw [World.cell?_setCell_other _ _ _ _ (fun e => by injection e with e1; omega)]
  exact hx
theorem take_few {R n : Nat} {l : List UInt8} {w : World} (h : Rd w R l) (hn : n ≤ 18446744073709551615) (hlt : l.length < n) :
    Calls Try.prog 45 #[.pointer (some ⟨R, 0, none⟩), .int .u64 n] w fun e w' => e = .returned (.tuple #[.slice none 0 0, .bool false]) ∧ w = w' := by
  obtain ⟨A, c, h1, h2, h3, h4, h5, h6⟩ := h
  have hl : l.length ≤ 9223372036854775807 := by omega
  have hlt' : (l.length : Int) < (n : Int) := by omega
  have hn' : (n : Int) ≤ 18446744073709551615 := by omega
  go_enter Try.func45, Try.ntmps45
  go_wp2
  go_ret2
  exact ⟨rfl, rfl⟩
/-- what take answers -/
def TakeR (w : World) (R n : Nat) (l : List UInt8) (e : Ending) (w' : World) : Prop :=
  ∃ A c, e = .returned (.tuple #[.slice A n c, .bool true]) ∧ BytAt w' R A (l.take n) ∧ (A = none → c = 0) ∧ n ≤ c ∧ c ≤ 9223372036854775807 ∧ Rd w' R (l.drop n) ∧ w.grownBy w' (some R)
theorem take_ok {R n : Nat} {l : List UInt8} {w : World} (h : Rd w R l) (hle : n ≤ l.length) :
    Calls Try.prog 45 #[.pointer (some ⟨R, 0, none⟩), .int .u64 n] w (TakeR w R n l) := by
  have hR := Lib.hid h
  obtain ⟨A, c, h1, h2, h3, h4, h5, h6⟩ := h
  have hl : l.length ≤ 9223372036854775807 := by omega
  have hlt' : ¬ (l.length : Int) < (n : Int) := by omega
  have hnc : n ≤ c := by omega
  cases A with
  | none =>
    have hc0 := h6 rfl
    subst hc0
    have hl0 : l.length = 0 := by omega
    have hn0 : n = 0 := by omega
    subst hn0
    have hl1 := List.eq_nil_of_length_eq_zero hl0
    subst hl1
    clear hl0 hnc hle hl hlt' h2
    go_enter Try.func45, Try.ntmps45
    go_wp2
    go_ret2
    exact ⟨none, 0, rfl, .inl (by simp), fun _ => rfl, Nat.le_refl _, by omega, Rd.set (m := []) hR.out (Nat.le_refl _) (by omega) (.inl rfl) (fun _ => rfl), by_set w R 0 _⟩
  | some a =>
    have HB := Lib.hid h5
    have HS : Hid (∀ A' c', (l.drop n).length ≤ c' → c' ≤ 9223372036854775807 → BytAt w R A' (l.drop n) → (A' = none → c' = 0) → Rd (w.setCell ⟨R, 0, none⟩ (.slice A' (l.length - n) c')) R (l.drop n)) := Lib.hid fun A' c' q1 q2 q3 q4 => by
      have := Rd.set hR.out q1 q2 q3 q4
      rwa [List.length_drop] at this
    have HT : Hid (∀ A' c', BytAt (w.setCell ⟨R, 0, none⟩ (.slice A' (l.length - n) c')) R (some a) (l.take n)) := Lib.hid fun A' c' => (h5.take n).keep fun b o x hlt hx => by
      rw [World.cell?_setCell_other _ _ _ _ (fun e => by injection e with e1; omega)]
      exact hx
    clear h5
    go_enter Try.func45, Try.ntmps45
    go_wp2
    all_goals go_ret2
    · exact ⟨some a, _, rfl, HT.out _ _, (fun h => by cases h), Nat.le_refl _, by omega, HS.out _ _ (by rw [List.length_drop]; omega) (by omega) (.inl (List.drop_eq_nil_of_le (by omega))) (fun h => by cases h), by_set w R 0 _⟩
    · exact ⟨some a, _, rfl, HT.out _ _, (fun h => by cases h), hnc, h3, HS.out _ _ (by rw [List.length_drop]; omega) (by omega) (HB.out.add n) (fun h => by cases h), by_set w R 0 _⟩
end Go.Proofs.Ytohoobgbmhondaa.Cod
