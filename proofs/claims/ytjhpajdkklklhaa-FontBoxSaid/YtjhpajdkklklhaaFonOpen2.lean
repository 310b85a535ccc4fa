/- Fonts that came in, whole. -/
import Derived.Test.YtjhpajdkklklhaaFonOpen
import Derived.Test.YtjhpajdkklklhaaFntValid
namespace Go.Proofs.Ytjhpajdkklklhaa.Fon
open Go Go.RowKit Go.ChangeShapes Go.WideShapes Go.Deep By

section
variable {H : Type} {enc : TypeId × Value → H} {W : World} {base : Nat} {sp : Nat → Bool} {held : Bool}
theorem pa_fields : ∃ fs : Array Field, Try.prog.underlying 59 = some (.struct fs) ∧ oneCellFields Try.prog fs = true ∧ Try.prog.cellsOf 59 = 2 ∧ (fs[0]?.map (·.type)) = some 9 ∧ (fs[1]?.map (·.type)) = some 4 :=
  ⟨_, Try.underlying59, by kernel_rfl, by kernel_rfl, by kernel_rfl, by kernel_rfl⟩
theorem bool_at {fuel : Nat} {v : Value} {y : DataW H × List MemPlace} (h : DataW.trod enc Try.prog W base sp held fuel 4 [v] = some y) : ∃ b, v = .bool b := by
  obtain ⟨b, hb, _⟩ := DataW.trod_bool Try.underlying4 h
  exact ⟨b, List.head_eq_of_cons_eq hb⟩
theorem pa_at {fuel : Nat} {cs : List Value} {x : DataW H × List MemPlace} (h : DataW.trod enc Try.prog W base sp held fuel 59 cs = some x) : ∃ p : Pa, (cs = encP p ∧ p.name.size ≤ 9223372036854775807) ∧ cs.length = 2 := by
  obtain ⟨fs, hs, hone, hC, t0, t1⟩ := pa_fields
  obtain ⟨hl, n, hf⟩ := field_at hs hone h
  rw [hC] at hl
  match cs, hl with
  | [v0, v1], _ =>
    obtain ⟨_, e0⟩ := hf 0 _ _ t0 rfl
    obtain ⟨_, e1⟩ := hf 1 _ _ t1 rfl
    obtain ⟨nm, rfl, h0⟩ := str_at e0
    obtain ⟨b, rfl⟩ := bool_at e1
    exact ⟨⟨nm, b⟩, ⟨rfl, h0⟩, rfl⟩
theorem st_cell {fuel : Nat} {cs : List Value} {x : DataW H × List MemPlace} (h : DataW.trod enc Try.prog W base sp held fuel 9 cs = some x) : ∃ s : ByteArray, (cs = encS s ∧ s.size ≤ 9223372036854775807) ∧ cs.length = 1 := by
  obtain ⟨sb, hsb, _, ws⟩ := DataW.trod_string Try.underlying9 h
  exact ⟨sb, ⟨hsb, by unfold maxLen at ws; omega⟩, by rw [hsb]; rfl⟩
def StR (W : World) (s : St) (vs : List Value) : Prop := ∃ (C1 : Option Addr) (e1 : Nat) (C2 : Option Addr) (e2 : Nat), vs = [.string s.name, .slice C1 s.sizes.length e1, .slice C2 s.parts.length e2, .int .i64 s.ov] ∧ StIn W W.heap.size s C1 C2 ∧ StWf s
theorem sf_fields : ∃ fs : Array Field, Try.prog.underlying 37 = some (.struct fs) ∧ oneCellFields Try.prog fs = true ∧ Try.prog.cellsOf 37 = 4 ∧ (fs[0]?.map (·.type)) = some 9 ∧ (fs[1]?.map (·.type)) = some 34 ∧ (fs[2]?.map (·.type)) = some 35 ∧ (fs[3]?.map (·.type)) = some 3 :=
  ⟨_, Try.underlying37, by kernel_rfl, by kernel_rfl, by kernel_rfl, by kernel_rfl, by kernel_rfl, by kernel_rfl⟩
theorem mem_at {α : Type} {P : α → Prop} {l : List α} (h : ∀ j (hj : j < l.length), P l[j]) : ∀ x ∈ l, P x := fun x hx => by
  obtain ⟨j, hj, rfl⟩ := List.getElem_of_mem hx
  exact h j hj
theorem sf_at {fuel : Nat} {cs : List Value} {x : DataW H × List MemPlace} (h : DataW.trod enc Try.prog W base sp held fuel 37 cs = some x) : ∃ s : St, StR W s cs ∧ cs.length = 4 := by
  obtain ⟨fs, hs, hone, hC, t0, t1, t2, t3⟩ := sf_fields
  obtain ⟨hl, n, hf⟩ := field_at hs hone h
  rw [hC] at hl
  match cs, hl with
  | [v0, v1, v2, v3], _ =>
    obtain ⟨_, e0⟩ := hf 0 _ _ t0 rfl
    obtain ⟨_, e1⟩ := hf 1 _ _ t1 rfl
    obtain ⟨_, e2⟩ := hf 2 _ _ t2 rfl
    obtain ⟨_, e3⟩ := hf 3 _ _ t3 rfl
    obtain ⟨nm, rfl, h0⟩ := str_at e0
    obtain ⟨ov, rfl, _⟩ := int_at e3
    obtain ⟨A1, n1, c1, l1, rfl, hl1, hb1, ha1⟩ := slice_at (R := fun (s : ByteArray) vs => vs = encS s ∧ s.size ≤ 9223372036854775807) (k := 1) Try.underlying34 (by kernel_rfl) (by decide) (fun _ _ _ h => st_cell h) e1
    obtain ⟨A2, n2, c2, l2, rfl, hl2, hb2, ha2⟩ := slice_at (R := fun (p : Pa) vs => vs = encP p ∧ p.name.size ≤ 9223372036854775807) (k := 2) Try.underlying35 (by kernel_rfl) (by decide) (fun _ _ _ h => pa_at h) e2
    refine ⟨⟨nm, l1, l2, ov⟩, ⟨A1, c1, A2, c2, by rw [hl1, hl2], ⟨?_, ?_⟩, h0, by rw [hl1]; exact hb1, by rw [hl2]; exact hb2, ?_, ?_⟩, rfl⟩
    · rcases ha1 with rfl | ⟨b, off, h1, h2, h3⟩
      · exact .inl rfl
      · refine .inr ⟨b, off, h1, h2, fun j hj => ?_⟩
        obtain ⟨vs, ⟨rfl, _⟩, _, hc⟩ := h3 j hj
        have := hc 0 _ rfl
        rw [Nat.mul_one, Nat.add_zero] at this
        exact this
    · rcases ha2 with rfl | ⟨b, off, h1, h2, h3⟩
      · exact .inl rfl
      · refine .inr ⟨b, off, h1, h2, fun j hj => ?_⟩
        obtain ⟨vs, ⟨rfl, _⟩, _, hc⟩ := h3 j hj
        exact ⟨hc 0 _ rfl, hc 1 _ rfl⟩
    · rcases ha1 with rfl | ⟨b, off, h1, h2, h3⟩
      · intro x hx; cases hx
      · refine mem_at fun j hj => ?_
        obtain ⟨vs, ⟨_, h⟩, _⟩ := h3 j hj
        exact h
    · rcases ha2 with rfl | ⟨b, off, h1, h2, h3⟩
      · intro x hx; cases hx
      · refine mem_at fun j hj => ?_
        obtain ⟨vs, ⟨_, h⟩, _⟩ := h3 j hj
        exact h
def FontV (W : World) (v : Value) : Prop := ∃ (A : Option Addr) (n c : Nat) (B : Option Addr) (m d : Nat) (p0 p1 p2 p3 p4 p5 p6 p7 p8 p9 p10 p11 p12 p13 p14 p15 p16 p17 p18 p19 : Int) (gs : List Gl) (ss : List St), v = .agg #[.slice A n c, .slice B m d, .int .i64 p0, .int .i64 p1, .int .i64 p2, .int .i64 p3, .int .i64 p4, .int .i64 p5, .int .i64 p6, .int .i64 p7, .int .i64 p8, .int .i64 p9, .int .i64 p10, .int .i64 p11, .int .i64 p12, .int .i64 p13, .int .i64 p14, .int .i64 p15, .int .i64 p16, .int .i64 p17, .int .i64 p18, .int .i64 p19] ∧ n = gs.length ∧ m = ss.length ∧ gs.length ≤ 9223372036854775807 ∧ ss.length ≤ 9223372036854775807 ∧
  GlsAt W W.heap.size A gs ∧ StsAt W W.heap.size B ss ∧ (∀ g ∈ gs, g.name.size ≤ 9223372036854775807) ∧ ∀ s ∈ ss, StWf s
theorem pr_fields : ∃ fs : Array Field, Try.prog.underlying 25 = some (.struct fs) ∧ oneCellFields Try.prog fs = true ∧ Try.prog.cellsOf 25 = 20 ∧ ∀ j, j < 20 → (fs[j]?.map (·.type)) = some 3 := by
  refine ⟨_, Try.underlying25, by kernel_rfl, by kernel_rfl, fun j hj => ?_⟩
  have : j = 0 ∨ j = 1 ∨ j = 2 ∨ j = 3 ∨ j = 4 ∨ j = 5 ∨ j = 6 ∨ j = 7 ∨ j = 8 ∨ j = 9 ∨ j = 10 ∨ j = 11 ∨ j = 12 ∨ j = 13 ∨ j = 14 ∨ j = 15 ∨ j = 16 ∨ j = 17 ∨ j = 18 ∨ j = 19 := by omega
  rcases this with rfl | rfl | rfl | rfl | rfl | rfl | rfl | rfl | rfl | rfl | rfl | rfl | rfl | rfl | rfl | rfl | rfl | rfl | rfl | rfl <;> rfl
theorem list20 {l : List Int} (h : l.length = 20) : ∃ p0 p1 p2 p3 p4 p5 p6 p7 p8 p9 p10 p11 p12 p13 p14 p15 p16 p17 p18 p19, l = [p0, p1, p2, p3, p4, p5, p6, p7, p8, p9, p10, p11, p12, p13, p14, p15, p16, p17, p18, p19] := by
  match l, h with
  | [p0, p1, p2, p3, p4, p5, p6, p7, p8, p9, p10, p11, p12, p13, p14, p15, p16, p17, p18, p19], _ => exact ⟨p0, p1, p2, p3, p4, p5, p6, p7, p8, p9, p10, p11, p12, p13, p14, p15, p16, p17, p18, p19, rfl⟩
theorem pr_at {fuel : Nat} {cs : List Value} {x : DataW H × List MemPlace} (h : DataW.trod enc Try.prog W base sp held fuel 25 cs = some x) : ∃ p0 p1 p2 p3 p4 p5 p6 p7 p8 p9 p10 p11 p12 p13 p14 p15 p16 p17 p18 p19, cs = [.int .i64 p0, .int .i64 p1, .int .i64 p2, .int .i64 p3, .int .i64 p4, .int .i64 p5, .int .i64 p6, .int .i64 p7, .int .i64 p8, .int .i64 p9, .int .i64 p10, .int .i64 p11, .int .i64 p12, .int .i64 p13, .int .i64 p14, .int .i64 p15, .int .i64 p16, .int .i64 p17, .int .i64 p18, .int .i64 p19] := by
  obtain ⟨fs, hs, hone, hC, ht⟩ := pr_fields
  obtain ⟨hl, n, hf⟩ := field_at hs hone h
  rw [hC] at hl
  obtain ⟨ps, hpl, hp⟩ := list_build (P := fun j (k : Int) => cs[j]? = some (.int .i64 k)) 20 fun j hj => by
    obtain ⟨_, e⟩ := hf j _ _ (ht j hj) (List.getElem?_eq_getElem (by omega))
    obtain ⟨k, hk, _⟩ := int_at e
    exact ⟨k, by rw [List.getElem?_eq_getElem (by omega), hk]⟩
  have hcs : cs = ps.map (Value.int .i64) := List.ext_getElem (by rw [List.length_map, hl, hpl]) fun j h1 h2 => by
    have := hp j (by rw [List.length_map] at h2; exact h2)
    rw [List.getElem?_eq_getElem h1] at this
    rw [List.getElem_map]; exact Option.some.inj this
  obtain ⟨p0, p1, p2, p3, p4, p5, p6, p7, p8, p9, p10, p11, p12, p13, p14, p15, p16, p17, p18, p19, rfl⟩ := list20 hpl
  exact ⟨p0, p1, p2, p3, p4, p5, p6, p7, p8, p9, p10, p11, p12, p13, p14, p15, p16, p17, p18, p19, hcs⟩
theorem fo_fields : ∃ fs : Array Field, Try.prog.underlying 27 = some (.struct fs) ∧ Try.prog.cellsOf 27 = 22 ∧ fs.size = 3 ∧ (fs[0]?.map fun f => (f.type, f.offset)) = some (22, 0) ∧ (fs[1]?.map fun f => (f.type, f.offset)) = some (23, 1) ∧ (fs[2]?.map fun f => (f.type, f.offset)) = some (25, 2) :=
  ⟨_, Try.underlying27, by kernel_rfl, by kernel_rfl, by kernel_rfl, by kernel_rfl, by kernel_rfl⟩
theorem open_font {b0 : Nat} {r : Reach} {v : Value} {d : DataW H} {p : List MemPlace} (hv : Value.okWide Try.prog W r b0 27 v) (h : DataW.Trod enc Try.prog W base sp held 27 v d p) : FontV W v := by
  obtain ⟨fs, hs, hC, hsz, t0, t1, t2⟩ := fo_fields
  obtain ⟨cs, rfl, hcz⟩ := okWide_struct hs hv
  obtain ⟨fuel, hf⟩ := h
  obtain ⟨xs, n, hfu, hx, hcl, hxl, hfi⟩ := DataW.trod_struct hs hf
  rw [hC] at hcz
  obtain ⟨l⟩ := cs
  have hcells : (Value.agg ⟨l⟩).cells.toList = l := rfl
  have hll : l.length = 22 := hcz
  have get : ∀ (j : Nat) (ty : TypeId) (o : Nat), (fs[j]?.map fun f => (f.type, f.offset)) = some (ty, o) → ∃ y, DataW.trod enc Try.prog W base sp held n ty ((l.drop o).take (Try.prog.cellsOf ty)) = some y := by
    intro j ty o hj
    cases hfj : fs[j]? with
    | none => rw [hfj] at hj; cases hj
    | some f =>
      rw [hfj] at hj
      injection hj with hj
      injection hj with e1 e2
      subst e1 e2
      have h1 := hfi j f hfj
      have hjx : j < xs.length := by rw [hxl]; exact (Array.getElem?_eq_some_iff.1 hfj).1
      exact ⟨_, h1.trans (List.getElem?_eq_getElem hjx)⟩
  obtain ⟨_, e0⟩ := get 0 _ _ t0
  obtain ⟨_, e1⟩ := get 1 _ _ t1
  obtain ⟨_, e2⟩ := get 2 _ _ t2
  obtain ⟨v0, v1, rest, rfl⟩ : ∃ v0 v1 rest, l = v0 :: v1 :: rest := by
    match l, hll with
    | v0 :: v1 :: rest, _ => exact ⟨v0, v1, rest, rfl⟩
  rw [show Try.prog.cellsOf 22 = 1 by kernel_rfl] at e0
  rw [show Try.prog.cellsOf 23 = 1 by kernel_rfl] at e1
  rw [show Try.prog.cellsOf 25 = 20 by kernel_rfl] at e2
  have hr : rest.length = 20 := by simpa using hll
  have e0' : DataW.trod enc Try.prog W base sp held n 22 [v0] = some _ := e0
  have e1' : DataW.trod enc Try.prog W base sp held n 23 [v1] = some _ := e1
  have e2' : DataW.trod enc Try.prog W base sp held n 25 (rest.take 20) = some _ := e2
  rw [List.take_of_length_le (by omega)] at e2'
  obtain ⟨p0, p1, p2, p3, p4, p5, p6, p7, p8, p9, p10, p11, p12, p13, p14, p15, p16, p17, p18, p19, rfl⟩ := pr_at e2'
  obtain ⟨A1, n1, c1, l1, rfl, hl1, hb1, ha1⟩ := slice_at (R := fun (g : Gl) vs => vs = encG g ∧ GlWf g) (k := 6) Try.underlying22 (by kernel_rfl) (by decide) (fun _ _ _ h => gl_at h) e0'
  obtain ⟨A2, n2, c2, l2, rfl, hl2, hb2, ha2⟩ := slice_at (R := StR W) (k := 4) Try.underlying23 (by kernel_rfl) (by decide) (fun _ _ _ h => sf_at h) e1'
  refine ⟨A1, n1, c1, A2, n2, c2, p0, p1, p2, p3, p4, p5, p6, p7, p8, p9, p10, p11, p12, p13, p14, p15, p16, p17, p18, p19, l1, l2, rfl, hl1.symm, hl2.symm, by omega, by omega, ?_, ?_, ?_, ?_⟩
  · rcases ha1 with rfl | ⟨b, off, h1, h2, h3⟩
    · exact .inl rfl
    · refine .inr ⟨b, off, h1, h2, fun j hj => ?_⟩
      obtain ⟨vs, ⟨rfl, _⟩, _, hc⟩ := h3 j hj
      exact ⟨hc 0 _ rfl, hc 1 _ rfl, hc 2 _ rfl, hc 3 _ rfl, hc 4 _ rfl, hc 5 _ rfl⟩
  · rcases ha2 with rfl | ⟨b, off, h1, h2, h3⟩
    · exact .inl rfl
    · refine .inr ⟨b, off, h1, h2, fun j hj => ?_⟩
      obtain ⟨vs, ⟨C1, f1, C2, f2, rfl, hin, _⟩, _, hc⟩ := h3 j hj
      exact ⟨C1, f1, C2, f2, hc 0 _ rfl, hc 1 _ rfl, hc 2 _ rfl, hc 3 _ rfl, hin⟩
  · rcases ha1 with rfl | ⟨b, off, h1, h2, h3⟩
    · intro x hx; cases hx
    · refine mem_at fun j hj => ?_
      obtain ⟨vs, ⟨_, h⟩, _⟩ := h3 j hj
      exact h.1
  · rcases ha2 with rfl | ⟨b, off, h1, h2, h3⟩
    · intro x hx; cases hx
    · refine mem_at fun j hj => ?_
      obtain ⟨vs, ⟨C1, f1, C2, f2, _, _, h⟩, _⟩ := h3 j hj
      exact h
end
end Go.Proofs.Ytjhpajdkklklhaa.Fon
