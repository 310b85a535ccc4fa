/- A value that came in lies in memory as a tree. -/
import Derived.Test.YtohoobgbmhondaaCodLies
import Derived.Deep.Slices
import Derived.Deep.Fields
import Derived.ChangeSame
namespace Go.Proofs.Ytohoobgbmhondaa.Cod
open Go Go.RowKit Go.ChangeShapes Go.WideShapes Go.Deep

theorem liesL_build {w : World} {F : Nat → Prop} {b : Nat} : (len off : Nat) → (∀ i, i < len → ∃ t v0 v1 v2 v3, w.cell? ⟨b, off + i * 4, none⟩ = some v0 ∧ w.cell? ⟨b, off + i * 4 + 1, none⟩ = some v1 ∧ w.cell? ⟨b, off + i * 4 + 2, none⟩ = some v2 ∧ w.cell? ⟨b, off + i * 4 + 3, none⟩ = some v3 ∧ Lies w F t (.agg #[v0, v1, v2, v3])) → ∃ l : List T, l.length = len ∧ LiesL w F b l off
  | 0, _, _ => ⟨[], rfl, by simp only [LiesL]⟩
  | len + 1, off, h => by
    obtain ⟨t, v0, v1, v2, v3, c0, c1, c2, c3, hL⟩ := h 0 (by omega)
    obtain ⟨l, hl, hLL⟩ := liesL_build len (off + 4) (fun i hi => by
      obtain ⟨t, v0, v1, v2, v3, c0, c1, c2, c3, hL⟩ := h (i + 1) (by omega)
      have e : off + (i + 1) * 4 = off + 4 + i * 4 := by omega
      rw [e] at c0 c1 c2 c3
      exact ⟨t, v0, v1, v2, v3, c0, c1, c2, c3, hL⟩)
    refine ⟨t :: l, by simp [hl], ?_⟩
    simp only [LiesL]
    exact ⟨⟨v0, v1, v2, v3, by simpa using c0, by simpa using c1, by simpa using c2, by simpa using c3, hL⟩, hLL⟩
theorem list4 {α : Type} {l : List α} (h : l.length = 4) : ∃ a b c d, l = [a, b, c, d] := by
  match l, h with
  | [a, b, c, d], _ => exact ⟨a, b, c, d, rfl⟩
theorem fields_of : ∃ fs : Array Field, Try.prog.underlying 27 = some (.struct fs) ∧ oneCellFields Try.prog fs = true ∧ fs.size = 4 ∧ Try.prog.cellsOf 27 = 4 ∧
    (fs[0]?.map (·.type)) = some 3 ∧ (fs[1]?.map (·.type)) = some 3 ∧ (fs[2]?.map (·.type)) = some 9 ∧ (fs[3]?.map (·.type)) = some 22 :=
  ⟨_, Try.underlying27, by kernel_rfl, by kernel_rfl, by kernel_rfl, by kernel_rfl, by kernel_rfl, by kernel_rfl, by kernel_rfl⟩
theorem lies_of {H : Type} {enc : TypeId × Value → H} {W : World} {base : Nat} {sp : Nat → Bool} {held : Bool} : ∀ (fuel : Nat) (cs : List Value) (x : DataW H × List MemPlace), DataW.trod enc Try.prog W base sp held fuel 27 cs = some x →
    ∃ t v0 v1 v2 v3, cs = [v0, v1, v2, v3] ∧ Lies W (fun _ => True) t (.agg #[v0, v1, v2, v3]) := by
  intro fuel
  induction fuel using Nat.strongRecOn with
  | _ fuel ih =>
    intro cs x h
    obtain ⟨fs, hs, hone, hfs, hC, t0, t1, t2, t3⟩ := fields_of
    obtain ⟨xs, n, hfu, hx, hcl, hxl, hf⟩ := DataW.trod_struct hs h
    rw [hC] at hcl
    obtain ⟨v0, v1, v2, v3, rfl⟩ := list4 hcl
    have get : ∀ (j : Nat) (ty : TypeId), (fs[j]?.map (·.type)) = some ty → ∃ y, DataW.trod enc Try.prog W base sp held n ty ((([v0, v1, v2, v3] : List Value).drop j).take 1) = some y := by
      intro j ty hj
      cases hfj : fs[j]? with
      | none => rw [hfj] at hj; cases hj
      | some f =>
        rw [hfj] at hj
        obtain rfl : f.type = ty := by simpa using hj
        obtain ⟨ho, hk⟩ := hone_of hone j f hfj
        have h1 := hf j f hfj
        rw [ho, hk] at h1
        have hjl : j < fs.size := (Array.getElem?_eq_some_iff.1 hfj).1
        have : xs[j]? = some (xs[j]'(by omega)) := List.getElem?_eq_getElem (by omega)
        exact ⟨_, h1.trans this⟩
    obtain ⟨y0, e0⟩ := get 0 _ t0
    obtain ⟨y1, e1⟩ := get 1 _ t1
    obtain ⟨y2, e2⟩ := get 2 _ t2
    obtain ⟨y3, e3⟩ := get 3 _ t3
    have e0 : DataW.trod enc Try.prog W base sp held n 3 [v0] = some y0 := e0
    have e1 : DataW.trod enc Try.prog W base sp held n 3 [v1] = some y1 := e1
    have e2 : DataW.trod enc Try.prog W base sp held n 9 [v2] = some y2 := e2
    have e3 : DataW.trod enc Try.prog W base sp held n 22 [v3] = some y3 := e3
    obtain ⟨k, hk, _, wk⟩ := DataW.trod_int Try.underlying3 e0
    obtain ⟨i, hi, _, wi⟩ := DataW.trod_int Try.underlying3 e1
    obtain ⟨sb, hsb, _, ws⟩ := DataW.trod_string Try.underlying9 e2
    obtain rfl : v0 = _ := List.head_eq_of_cons_eq hk
    obtain rfl : v1 = _ := List.head_eq_of_cons_eq hi
    obtain rfl : v2 = _ := List.head_eq_of_cons_eq hsb
    have wk' : I64 k := by unfold Lit.wf at wk; simp [IntKind.min, IntKind.max, IntKind.bits, IntKind.signed] at wk; exact ⟨by omega, by omega⟩
    have wi' : I64 i := by unfold Lit.wf at wi; simp [IntKind.min, IntKind.max, IntKind.bits, IntKind.signed] at wi; exact ⟨by omega, by omega⟩
    have ws' : sb.data.toList.length ≤ 9223372036854775807 := by unfold maxLen at ws; simp; omega
    rcases DataW.trod_slice Try.underlying22 e3 with ⟨h3, _⟩ | ⟨a, len, cap, elems, rest, m, hm, h3, _, hba, hlc, hcm, hel, hat, _⟩
    · obtain rfl : v3 = _ := List.head_eq_of_cons_eq h3
      refine ⟨.node k i sb.data.toList [], _, _, _, _, rfl, ?_⟩
      simp only [Lies]
      exact ⟨sb, _, rfl, rfl, wk', wi', ws', by simp, .inl ⟨trivial, .inl rfl⟩⟩
    · obtain rfl : v3 = _ := List.head_eq_of_cons_eq h3
      rw [hC] at hat
      have hel2 : ∀ i, i < len → ∃ t v0 v1 v2 v3, W.cell? (a.add (i * 4)) = some v0 ∧ W.cell? (a.add (i * 4 + 1)) = some v1 ∧ W.cell? (a.add (i * 4 + 2)) = some v2 ∧ W.cell? (a.add (i * 4 + 3)) = some v3 ∧ Lies W (fun _ => True) t (.agg #[v0, v1, v2, v3]) := by
        intro i hi
        have h1 := hat i hi
        rw [List.getElem?_eq_getElem (by omega), Option.bind_eq_some_iff] at h1
        obtain ⟨cs', hc, ht⟩ := h1
        obtain ⟨t, w0, w1, w2, w3, rfl, hL⟩ := ih m (by omega) cs' _ ht
        obtain ⟨_, _, hcell⟩ := World.cells?_some hc
        have g0 := hcell 0 (by omega)
        have g1 := hcell 1 (by omega)
        have g2 := hcell 2 (by omega)
        have g3 := hcell 3 (by omega)
        rw [Go.Deep.add_add] at g0 g1 g2 g3
        exact ⟨t, w0, w1, w2, w3, g0, g1, g2, g3, hL⟩
      rcases Nat.eq_zero_or_pos len with h0 | h0
      · subst h0
        refine ⟨.node k i sb.data.toList [], _, _, _, _, rfl, ?_⟩
        simp only [Lies]
        exact ⟨sb, _, rfl, rfl, wk', wi', ws', by simp, .inl ⟨trivial, .inr ⟨a, cap, rfl⟩⟩⟩
      · obtain ⟨b, off, spot⟩ := a
        obtain ⟨_, u0, _, _, _, g0, _⟩ := hel2 0 h0
        have hspot : spot = none := by simpa [Addr.add] using World.cell?_spot g0
        subst hspot
        obtain ⟨l, hl, hLL⟩ := liesL_build (w := W) (F := fun _ => True) (b := b) len off (fun i hi => by
          obtain ⟨t, v0, v1, v2, v3, c0, c1, c2, c3, hL⟩ := hel2 i hi
          rw [Go.WideShapes.add_plain] at c0 c1 c2 c3
          exact ⟨t, v0, v1, v2, v3, c0, by rw [Nat.add_assoc]; exact c1, by rw [Nat.add_assoc]; exact c2, by rw [Nat.add_assoc]; exact c3, hL⟩)
        refine ⟨.node k i sb.data.toList l, _, _, _, _, rfl, ?_⟩
        simp only [Lies]
        refine ⟨sb, _, rfl, rfl, wk', wi', ws', by unfold maxLen at hcm; omega, .inr ⟨b, off, cap, ?_, by rw [hl], trivial, hLL⟩⟩
        intro e; subst e; simp at hl; omega
/-- an argument -/
theorem open_value {H : Type} {enc : TypeId × Value → H} {W : World} {base b0 : Nat} {sp : Nat → Bool} {held : Bool} {r : Reach} {v : Value} {d : DataW H} {p : List MemPlace} (hv : Value.okWide Try.prog W r b0 27 v) (h : DataW.Trod enc Try.prog W base sp held 27 v d p) :
    ∃ t, Lies W (fun _ => True) t v := by
  obtain ⟨fs, hs, _, _, hC, _⟩ := fields_of
  obtain ⟨cs, rfl, hsz⟩ := okWide_struct hs hv
  obtain ⟨c0, c1, c2, c3, rfl⟩ := Go.Joins.array4 (hsz.trans hC)
  obtain ⟨fuel, hf⟩ := h
  obtain ⟨t, v0, v1, v2, v3, he, hL⟩ := lies_of fuel _ _ hf
  simp [Value.cells] at he
  obtain ⟨rfl, rfl, rfl, rfl⟩ := he
  exact ⟨t, hL⟩
end Go.Proofs.Ytohoobgbmhondaa.Cod
