/- A slice of values that came in; the bytes of the call's own as an argument of Next. -/
import Derived.Test.YtohoobgbmhondaaCodNext
import Derived.Test.YtohoobgbmhondaaCodHd3
namespace Go.Proofs.Ytohoobgbmhondaa.Cod
open Go Go.RowKit Go.ChangeShapes Go.WideShapes

theorem open_values {H : Type} {enc : TypeId × Value → H} {W : World} {base b0 : Nat} {sp : Nat → Bool} {held : Bool} {r : Reach} {v : Value} {d : DataW H} {p : List MemPlace} (hv : Value.okWide Try.prog W r b0 22 v) (h : DataW.Trod enc Try.prog W base sp held 22 v d p) :
    ∃ (l : List T) (A : Option Addr) (c : Nat), v = .slice A l.length c ∧ l.length ≤ 9223372036854775807 ∧ ListAt W TT A l := by
  obtain ⟨A, n, c, rfl⟩ := okWide_slice Try.underlying22 hv
  obtain ⟨fuel, hf⟩ := h
  obtain ⟨fs, hs, _, _, hC, _⟩ := fields_of
  rcases DataW.trod_slice Try.underlying22 hf with ⟨h3, _⟩ | ⟨a, len, cap, elems, rest, m, hm, h3, _, hba, hlc, hcm, hel, hat, _⟩
  · simp [Value.cells] at h3
    obtain ⟨rfl, rfl, rfl⟩ := h3
    exact ⟨[], none, 0, rfl, by simp, .inl rfl⟩
  · simp [Value.cells] at h3
    obtain ⟨rfl, rfl, rfl⟩ := h3
    rw [hC] at hat
    have hel2 : ∀ i, i < n → ∃ t v0 v1 v2 v3, W.cell? (a.add (i * 4)) = some v0 ∧ W.cell? (a.add (i * 4 + 1)) = some v1 ∧ W.cell? (a.add (i * 4 + 2)) = some v2 ∧ W.cell? (a.add (i * 4 + 3)) = some v3 ∧ Lies W (fun _ => True) t (.agg #[v0, v1, v2, v3]) := by
      intro i hi
      have h1 := hat i hi
      rw [List.getElem?_eq_getElem (by omega), Option.bind_eq_some_iff] at h1
      obtain ⟨cs', hc, ht⟩ := h1
      obtain ⟨t, w0, w1, w2, w3, rfl, hL⟩ := lies_of m cs' _ ht
      obtain ⟨_, _, hcell⟩ := World.cells?_some hc
      have g0 := hcell 0 (by omega)
      have g1 := hcell 1 (by omega)
      have g2 := hcell 2 (by omega)
      have g3 := hcell 3 (by omega)
      rw [Go.Deep.add_add] at g0 g1 g2 g3
      exact ⟨t, w0, w1, w2, w3, g0, g1, g2, g3, hL⟩
    have hn : n ≤ 9223372036854775807 := by unfold maxLen at hcm; omega
    rcases Nat.eq_zero_or_pos n with h0 | h0
    · subst h0
      exact ⟨[], some a, c, rfl, by simp, .inl rfl⟩
    · obtain ⟨b, off, spot⟩ := a
      obtain ⟨_, u0, _, _, _, g0, _⟩ := hel2 0 h0
      have hspot : spot = none := by simpa [Addr.add] using World.cell?_spot g0
      subst hspot
      obtain ⟨l, hl, hLL⟩ := liesL_build (w := W) (F := fun _ => True) (b := b) n off (fun i hi => by
        obtain ⟨t, v0, v1, v2, v3, c0, c1, c2, c3, hL⟩ := hel2 i hi
        rw [Go.WideShapes.add_plain] at c0 c1 c2 c3
        exact ⟨t, v0, v1, v2, v3, c0, by rw [Nat.add_assoc]; exact c1, by rw [Nat.add_assoc]; exact c2, by rw [Nat.add_assoc]; exact c3, hL⟩)
      exact ⟨l, some ⟨b, off, none⟩, c, by rw [hl], by omega, .inr ⟨b, off, rfl, trivial, hLL⟩⟩
/-- bytes of the call's own, as Next takes them -/
theorem byt_next {w : World} {base n c : Nat} {A : Option Addr} {l : List UInt8} (h : Byt w base (.slice A n c) l) : BytAt w w.heap.size A l ∧ l.length ≤ c ∧ c ≤ 9223372036854775807 ∧ (A = none → c = 0) := by
  cases A with
  | none => obtain ⟨h1, h2, h3⟩ := h.none_nil; exact ⟨.inl h1, by rw [h1]; simp, by omega, fun _ => h3⟩
  | some a =>
    obtain ⟨g, rfl, _, hg, hn, hc⟩ := h.cells
    rcases h.2 with ⟨e1, _⟩ | ⟨g', cap, cur, e1, _, _, hle, hcm, _⟩
    · cases e1
    · injection e1 with e1 e2 e3
      subst e3
      exact ⟨.inr ⟨g, 0, rfl, hg, fun j hj => by rw [Nat.zero_add]; exact hc j hj⟩, hle, by unfold maxLen at hcm; omega, fun h => by cases h⟩
/-- what has been appended so far -/
structure Sofar (l : List T) (j : Nat) : Prop where
  val : ∀ i (h : i < l.length), i < j → valT 64 l[i] = true
  sz : ∀ i (h : i < l.length), i < j → szT l[i] ≤ 1000000
  len : (encs (l.take j)).length ≤ j * 1048576
theorem Sofar.zero (l : List T) : Sofar l 0 := ⟨fun i _ h => by omega, fun i _ h => by omega, by simp [encs]⟩
theorem Sofar.succ {l : List T} {j : Nat} (h : Sofar l j) (hj : j < l.length) (h1 : valT 64 l[j] = true) (h2 : szT l[j] ≤ 1000000) (h3 : (enc l[j]).length ≤ 1048576) : Sofar l (j + 1) := by
  refine ⟨fun i hi hlt => ?_, fun i hi hlt => ?_, ?_⟩
  · rcases Nat.lt_succ_iff_lt_or_eq.1 hlt with h' | rfl
    · exact h.val i hi h'
    · exact h1
  · rcases Nat.lt_succ_iff_lt_or_eq.1 hlt with h' | rfl
    · exact h.sz i hi h'
    · exact h2
  · rw [encs_take hj, List.length_append]
    have := h.len
    omega
theorem encs_drop_le (l : List T) (j : Nat) : (encs (l.drop j)).length ≤ (encs l).length := by
  have := congrArg List.length (encs_append (l.take j) (l.drop j))
  rw [List.take_append_drop, List.length_append] at this
  omega
theorem ListAt.bd {w : World} {F : Nat → Prop} {A : Option Addr} {l : List T} (h : ListAt w F A l) {j : Nat} (hj : j < l.length) : bdT l[j] := by
  obtain ⟨b, off, v0, v1, v2, v3, _, _, _, _, _, _, hL⟩ := h.get hj
  exact Lies.bd _ _ hL
end Go.Proofs.Ytohoobgbmhondaa.Cod
