/- Fonts that came in: glyphs, stretches, parameters in memory. -/
import Derived.Test.YtjhpajdkklklhaaFonRows
import Derived.OpenShut
import Derived.Deep.Slices
import Derived.Deep.Fields
import Derived.ChangeSame
import Derived.Lib.SmallJoins
namespace Go.Proofs.Ytjhpajdkklklhaa.Fon
open Go Go.RowKit Go.ChangeShapes Go.WideShapes Go.Deep By

theorem list_build {α : Type} {P : Nat → α → Prop} : ∀ (n : Nat), (∀ i, i < n → ∃ a, P i a) → ∃ l : List α, l.length = n ∧ ∀ i (h : i < l.length), P i l[i]
  | 0, _ => ⟨[], rfl, fun i h => by simp at h⟩
  | n + 1, h => by
    obtain ⟨l, hl, hp⟩ := list_build n fun i hi => h i (by omega)
    obtain ⟨a, ha⟩ := h n (by omega)
    refine ⟨l ++ [a], by simp [hl], fun i hi => ?_⟩
    by_cases e : i < l.length
    · rw [List.getElem_append_left e]; exact hp i e
    · have : i = n := by simp at hi; omega
      subst this
      rw [List.getElem_append_right (by omega)]
      simpa [hl] using ha
section
variable {H : Type} {enc : TypeId × Value → H} {W : World} {base : Nat} {sp : Nat → Bool} {held : Bool}
theorem slice_at {α : Type} {R : α → List Value → Prop} {k : Nat} {t e : TypeId} (ht : Try.prog.underlying t = some (.slice e)) (hk : Try.prog.cellsOf e = k) (hk0 : 0 < k)
    (one : ∀ fuel cs x, DataW.trod enc Try.prog W base sp held fuel e cs = some x → ∃ a, R a cs ∧ cs.length = k) {fuel : Nat} {v : Value} {x : DataW H × List MemPlace} (h : DataW.trod enc Try.prog W base sp held fuel t [v] = some x) :
    ∃ (A : Option Addr) (n c : Nat) (l : List α), v = .slice A n c ∧ l.length = n ∧ n ≤ 9223372036854775807 ∧
      (l = [] ∨ ∃ b off, A = some ⟨b, off, none⟩ ∧ b < W.heap.size ∧ ∀ j (hj : j < l.length), ∃ vs, R l[j] vs ∧ vs.length = k ∧ ∀ o u, vs[o]? = some u → W.cell? ⟨b, off + j * k + o, none⟩ = some u) := by
  rcases DataW.trod_slice ht h with ⟨h3, _⟩ | ⟨a, len, cap, elems, rest, m, hm, h3, hy3, hba, hlc, hcm, hel, hat, _⟩
  · exact ⟨none, 0, 0, [], List.head_eq_of_cons_eq h3, rfl, by omega, .inl rfl⟩
  · obtain rfl : v = _ := List.head_eq_of_cons_eq h3
    rw [hk] at hat
    have hel2 : ∀ i, i < len → ∃ (p : α), ∃ vs, R p vs ∧ vs.length = k ∧ ∀ o u, vs[o]? = some u → W.cell? (a.add (i * k + o)) = some u := by
      intro i hi
      have h1 := hat i hi
      rw [List.getElem?_eq_getElem (by omega), Option.bind_eq_some_iff] at h1
      obtain ⟨cs', hc, ht'⟩ := h1
      obtain ⟨p, hp, hpl⟩ := one m cs' _ ht'
      refine ⟨p, cs', hp, hpl, fun o u hu => ?_⟩
      obtain ⟨_, _, hcell⟩ := World.cells?_some hc
      have ho : o < cs'.length := (List.getElem?_eq_some_iff.1 hu).1
      have g := hcell o (by omega)
      rw [Go.Deep.add_add] at g
      rw [g]; exact hu
    obtain ⟨l, hl, hp⟩ := list_build len hel2
    refine ⟨some a, len, cap, l, rfl, hl, by unfold maxLen at hcm; omega, ?_⟩
    rcases Nat.eq_zero_or_pos len with h0 | h0
    · exact .inl (List.eq_nil_of_length_eq_zero (by omega))
    · obtain ⟨b, off, spot⟩ := a
      obtain ⟨vs, _, hvl, hvc⟩ := hp 0 (by omega)
      obtain ⟨u0, hu0⟩ : ∃ u, vs[0]? = some u := ⟨_, List.getElem?_eq_getElem (by omega)⟩
      have g0 := hvc 0 u0 hu0
      have hspot : spot = none := by simpa [Addr.add] using World.cell?_spot g0
      subst hspot
      refine .inr ⟨b, off, rfl, ?_, fun j hj => ?_⟩
      · rw [Go.WideShapes.add_plain] at g0
        exact World.block_lt_of_cell? _ _ g0
      · obtain ⟨vs, h1, h2, h3⟩ := hp j hj
        refine ⟨vs, h1, h2, fun o u hu => ?_⟩
        have := h3 o u hu
        rw [Go.WideShapes.add_plain, ← Nat.add_assoc] at this
        exact this
theorem i64_ofF {k : Int} (wk : (Lit.int .i64 k).wf = true) : I64 k := by unfold Lit.wf at wk; simp [IntKind.min, IntKind.max, IntKind.bits, IntKind.signed] at wk; exact ⟨by omega, by omega⟩
theorem int_at {fuel : Nat} {v : Value} {y : DataW H × List MemPlace} (h : DataW.trod enc Try.prog W base sp held fuel 3 [v] = some y) : ∃ k, v = .int .i64 k ∧ I64 k := by
  obtain ⟨k, hk, _, wk⟩ := DataW.trod_int Try.underlying3 h
  exact ⟨k, List.head_eq_of_cons_eq hk, i64_ofF wk⟩
theorem str_at {fuel : Nat} {v : Value} {y : DataW H × List MemPlace} (h : DataW.trod enc Try.prog W base sp held fuel 9 [v] = some y) : ∃ s : ByteArray, v = .string s ∧ s.size ≤ 9223372036854775807 := by
  obtain ⟨sb, hsb, _, ws⟩ := DataW.trod_string Try.underlying9 h
  exact ⟨sb, List.head_eq_of_cons_eq hsb, by unfold maxLen at ws; omega⟩
/-- a struct of one-cell fields -/
theorem field_at {t : TypeId} {fs : Array Field} (hs : Try.prog.underlying t = some (.struct fs)) (hone : oneCellFields Try.prog fs = true) {fuel : Nat} {cs : List Value} {x : DataW H × List MemPlace} (h : DataW.trod enc Try.prog W base sp held fuel t cs = some x) :
    cs.length = Try.prog.cellsOf t ∧ ∃ n, ∀ (j : Nat) (ty : TypeId) (v : Value), (fs[j]?.map (·.type)) = some ty → cs[j]? = some v → ∃ y, DataW.trod enc Try.prog W base sp held n ty [v] = some y := by
  obtain ⟨xs, n, hfu, hx, hcl, hxl, hf⟩ := DataW.trod_struct hs h
  refine ⟨hcl, n, fun j ty v hj hv => ?_⟩
  cases hfj : fs[j]? with
  | none => rw [hfj] at hj; cases hj
  | some f =>
    rw [hfj] at hj
    obtain rfl : f.type = ty := by simpa using hj
    obtain ⟨ho, hk⟩ := hone_of hone j f hfj
    have h1 := hf j f hfj
    rw [ho, hk] at h1
    have hjl : j < cs.length := (List.getElem?_eq_some_iff.1 hv).1
    have hd : (cs.drop j).take 1 = [v] := by
      rw [List.drop_eq_getElem_cons hjl, List.take_succ_cons, List.take_zero]
      rw [List.getElem?_eq_getElem hjl] at hv
      rw [Option.some.inj hv]
    rw [hd] at h1
    have hjx : j < xs.length := by rw [hxl]; exact (Array.getElem?_eq_some_iff.1 hfj).1
    exact ⟨_, h1.trans (List.getElem?_eq_getElem hjx)⟩
def GlWf (g : Gl) : Prop := g.name.size ≤ 9223372036854775807 ∧ I64 g.W ∧ I64 g.H ∧ I64 g.D ∧ I64 g.I ∧ I64 g.A
theorem gl_fields : ∃ fs : Array Field, Try.prog.underlying 31 = some (.struct fs) ∧ oneCellFields Try.prog fs = true ∧ Try.prog.cellsOf 31 = 6 ∧ (fs[0]?.map (·.type)) = some 9 ∧ (fs[1]?.map (·.type)) = some 3 ∧ (fs[2]?.map (·.type)) = some 3 ∧ (fs[3]?.map (·.type)) = some 3 ∧ (fs[4]?.map (·.type)) = some 3 ∧ (fs[5]?.map (·.type)) = some 3 :=
  ⟨_, Try.underlying31, by kernel_rfl, by kernel_rfl, by kernel_rfl, by kernel_rfl, by kernel_rfl, by kernel_rfl, by kernel_rfl, by kernel_rfl⟩
theorem gl_at {fuel : Nat} {cs : List Value} {x : DataW H × List MemPlace} (h : DataW.trod enc Try.prog W base sp held fuel 31 cs = some x) : ∃ g, (cs = encG g ∧ GlWf g) ∧ cs.length = 6 := by
  obtain ⟨fs, hs, hone, hC, t0, t1, t2, t3, t4, t5⟩ := gl_fields
  obtain ⟨hl, n, hf⟩ := field_at hs hone h
  rw [hC] at hl
  match cs, hl with
  | [v0, v1, v2, v3, v4, v5], _ =>
    obtain ⟨_, e0⟩ := hf 0 _ _ t0 rfl
    obtain ⟨_, e1⟩ := hf 1 _ _ t1 rfl
    obtain ⟨_, e2⟩ := hf 2 _ _ t2 rfl
    obtain ⟨_, e3⟩ := hf 3 _ _ t3 rfl
    obtain ⟨_, e4⟩ := hf 4 _ _ t4 rfl
    obtain ⟨_, e5⟩ := hf 5 _ _ t5 rfl
    obtain ⟨nm, rfl, h0⟩ := str_at e0
    obtain ⟨a, rfl, h1⟩ := int_at e1
    obtain ⟨b, rfl, h2⟩ := int_at e2
    obtain ⟨c, rfl, h3⟩ := int_at e3
    obtain ⟨d, rfl, h4⟩ := int_at e4
    obtain ⟨e, rfl, h5⟩ := int_at e5
    exact ⟨⟨nm, a, b, c, d, e⟩, ⟨rfl, h0, h1, h2, h3, h4, h5⟩, rfl⟩
/-- a glyph by value -/
theorem open_glyph {b0 : Nat} {r : Reach} {v : Value} {d : DataW H} {p : List MemPlace} (hv : Value.okWide Try.prog W r b0 31 v) (h : DataW.Trod enc Try.prog W base sp held 31 v d p) : ∃ g, v = .agg #[.string g.name, .int .i64 g.W, .int .i64 g.H, .int .i64 g.D, .int .i64 g.I, .int .i64 g.A] ∧ GlWf g := by
  obtain ⟨fs, hs, _, hC, _⟩ := gl_fields
  obtain ⟨cs, rfl, hsz⟩ := okWide_struct hs hv
  obtain ⟨fuel, hf⟩ := h
  obtain ⟨g, ⟨he, hw⟩, _⟩ := gl_at hf
  refine ⟨g, ?_, hw⟩
  obtain ⟨l⟩ := cs
  simp [Value.cells] at he
  rw [he]; rfl
end
end Go.Proofs.Ytjhpajdkklklhaa.Fon
