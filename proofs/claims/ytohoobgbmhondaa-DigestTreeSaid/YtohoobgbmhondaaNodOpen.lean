/- A node that came in lies in memory as a tree; what the form's reach, or the bound of an 'Upto' statement, says of the tree. -/
import Derived.Test.YtohoobgbmhondaaNodLies
import Derived.Test.YtohoobgbmhondaaBulk
import Derived.Deep.Slices
import Derived.Deep.Fields
import Derived.ChangeSame
import Derived.SizedLaws
namespace Go.Proofs.Ytohoobgbmhondaa.Nod
open Go Go.RowKit Go.ChangeShapes Go.WideShapes Go.Deep By

mutual
/-- the datum is this tree -/
def IsN {H : Type} : N → DataW H → Prop
  | .node k s c l, d => ∃ dl, d = .agg [.lit (.int .i64 k), .lit (.string s), .lit (.int .i64 c), dl] ∧ ((l = [] ∧ dl = .nil) ∨ ∃ els spare, dl = .slice els spare ∧ IsNL l els)
def IsNL {H : Type} : List N → List (DataW H) → Prop
  | [], ds => ds = []
  | t :: r, ds => ∃ d e, ds = d :: e ∧ IsN t d ∧ IsNL r e
end
theorem IsNL.len {H : Type} : {l : List N} → {ds : List (DataW H)} → IsNL l ds → ds.length = l.length
  | [], _, h => by simp only [IsNL] at h; subst h; rfl
  | t :: r, _, h => by
    simp only [IsNL] at h
    obtain ⟨d, e, rfl, _, h2⟩ := h
    simp [IsNL.len h2]
theorem liesL_build {H : Type} {w : World} {F : Nat → Prop} {b : Nat} : (els : List (DataW H)) → (off : Nat) → (∀ i d, els[i]? = some d → ∃ t v0 v1 v2 v3, w.cell? ⟨b, off + i * 4, none⟩ = some v0 ∧ w.cell? ⟨b, off + i * 4 + 1, none⟩ = some v1 ∧ w.cell? ⟨b, off + i * 4 + 2, none⟩ = some v2 ∧ w.cell? ⟨b, off + i * 4 + 3, none⟩ = some v3 ∧ Lies w F t (.agg #[v0, v1, v2, v3]) ∧ IsN t d) →
    ∃ l : List N, LiesL w F b l off ∧ IsNL l els
  | [], _, _ => ⟨[], by simp only [LiesL], by simp only [IsNL]⟩
  | d :: els, off, h => by
    obtain ⟨t, v0, v1, v2, v3, c0, c1, c2, c3, hL, hd⟩ := h 0 d rfl
    obtain ⟨l, hLL, hI⟩ := liesL_build els (off + 4) (fun i e hi => by
      obtain ⟨t, v0, v1, v2, v3, c0, c1, c2, c3, hL⟩ := h (i + 1) e (by simpa using hi)
      have e : off + (i + 1) * 4 = off + 4 + i * 4 := by omega
      rw [e] at c0 c1 c2 c3
      exact ⟨t, v0, v1, v2, v3, c0, c1, c2, c3, hL⟩)
    refine ⟨t :: l, ?_, ?_⟩
    · simp only [LiesL]
      exact ⟨⟨v0, v1, v2, v3, by simpa using c0, by simpa using c1, by simpa using c2, by simpa using c3, hL⟩, hLL⟩
    · simp only [IsNL]
      exact ⟨d, els, rfl, hd, hI⟩
theorem list4 {α : Type} {l : List α} (h : l.length = 4) : ∃ a b c d, l = [a, b, c, d] := by
  match l, h with
  | [a, b, c, d], _ => exact ⟨a, b, c, d, rfl⟩
theorem fields_of : ∃ fs : Array Field, Try.prog.underlying 49 = some (.struct fs) ∧ oneCellFields Try.prog fs = true ∧ fs.size = 4 ∧ Try.prog.cellsOf 49 = 4 ∧
    (fs[0]?.map (·.type)) = some 3 ∧ (fs[1]?.map (·.type)) = some 9 ∧ (fs[2]?.map (·.type)) = some 3 ∧ (fs[3]?.map (·.type)) = some 47 :=
  ⟨_, Try.underlying49, by kernel_rfl, by kernel_rfl, by kernel_rfl, by kernel_rfl, by kernel_rfl, by kernel_rfl, by kernel_rfl⟩
theorem i64_of {k : Int} (wk : (Lit.int .i64 k).wf = true) : I64 k := by unfold Lit.wf at wk; simp [IntKind.min, IntKind.max, IntKind.bits, IntKind.signed] at wk; exact ⟨by omega, by omega⟩
theorem lies_of {H : Type} {enc : TypeId × Value → H} {W : World} {base : Nat} {sp : Nat → Bool} {held : Bool} : ∀ (fuel : Nat) (cs : List Value) (x : DataW H × List MemPlace), DataW.trod enc Try.prog W base sp held fuel 49 cs = some x →
    ∃ t v0 v1 v2 v3, cs = [v0, v1, v2, v3] ∧ Lies W (fun _ => True) t (.agg #[v0, v1, v2, v3]) ∧ IsN t x.1 := by
  intro fuel
  induction fuel using Nat.strongRecOn with
  | _ fuel ih =>
    intro cs x h
    obtain ⟨fs, hs, hone, hfs, hC, t0, t1, t2, t3⟩ := fields_of
    obtain ⟨xs, n, hfu, hx, hcl, hxl, hf⟩ := DataW.trod_struct hs h
    rw [hC] at hcl
    obtain ⟨v0, v1, v2, v3, rfl⟩ := list4 hcl
    obtain ⟨y0, y1, y2, y3, rfl⟩ := list4 (hxl.trans hfs)
    have get : ∀ (j : Nat) (ty : TypeId) (y : DataW H × List MemPlace), (fs[j]?.map (·.type)) = some ty → ([y0, y1, y2, y3])[j]? = some y → DataW.trod enc Try.prog W base sp held n ty ((([v0, v1, v2, v3] : List Value).drop j).take 1) = some y := by
      intro j ty y hj hy
      cases hfj : fs[j]? with
      | none => rw [hfj] at hj; cases hj
      | some f =>
        rw [hfj] at hj
        obtain rfl : f.type = ty := by simpa using hj
        obtain ⟨ho, hk⟩ := hone_of hone j f hfj
        have h1 := hf j f hfj
        rw [ho, hk] at h1
        exact h1.trans hy
    have e0 : DataW.trod enc Try.prog W base sp held n 3 [v0] = some y0 := get 0 _ _ t0 rfl
    have e1 : DataW.trod enc Try.prog W base sp held n 9 [v1] = some y1 := get 1 _ _ t1 rfl
    have e2 : DataW.trod enc Try.prog W base sp held n 3 [v2] = some y2 := get 2 _ _ t2 rfl
    have e3 : DataW.trod enc Try.prog W base sp held n 47 [v3] = some y3 := get 3 _ _ t3 rfl
    obtain ⟨k, hk, hy0, wk⟩ := DataW.trod_int Try.underlying3 e0
    obtain ⟨sb, hsb, hy1, ws⟩ := DataW.trod_string Try.underlying9 e1
    obtain ⟨i, hi, hy2, wi⟩ := DataW.trod_int Try.underlying3 e2
    obtain rfl : v0 = _ := List.head_eq_of_cons_eq hk
    obtain rfl : v1 = _ := List.head_eq_of_cons_eq hsb
    obtain rfl : v2 = _ := List.head_eq_of_cons_eq hi
    have ws' : sb.data.toList.length ≤ 9223372036854775807 := by unfold maxLen at ws; simp; omega
    subst hy0 hy1 hy2 hx
    rcases DataW.trod_slice Try.underlying47 e3 with ⟨h3, hy3⟩ | ⟨a, len, cap, elems, rest, m, hm, h3, hy3, hba, hlc, hcm, hel, hat, _⟩
    · obtain rfl : v3 = _ := List.head_eq_of_cons_eq h3
      refine ⟨.node k sb.data.toList i [], _, _, _, _, rfl, ?_, ?_⟩
      · simp only [Lies]
        exact ⟨sb, _, rfl, rfl, i64_of wk, i64_of wi, ws', by simp, .inl ⟨trivial, .inl rfl⟩⟩
      · simp only [IsN]
        exact ⟨.nil, by subst hy3; rfl, .inl ⟨trivial, rfl⟩⟩
    · obtain rfl : v3 = _ := List.head_eq_of_cons_eq h3
      rw [hC] at hat
      have hel2 : ∀ i, i < len → ∃ t v0 v1 v2 v3, W.cell? (a.add (i * 4)) = some v0 ∧ W.cell? (a.add (i * 4 + 1)) = some v1 ∧ W.cell? (a.add (i * 4 + 2)) = some v2 ∧ W.cell? (a.add (i * 4 + 3)) = some v3 ∧ Lies W (fun _ => True) t (.agg #[v0, v1, v2, v3]) ∧ ∀ y, elems[i]? = some y → IsN t y.1 := by
        intro i hi
        have h1 := hat i hi
        rw [List.getElem?_eq_getElem (by omega), Option.bind_eq_some_iff] at h1
        obtain ⟨cs', hc, ht⟩ := h1
        obtain ⟨t, w0, w1, w2, w3, rfl, hL, hI⟩ := ih m (by omega) cs' _ ht
        obtain ⟨_, _, hcell⟩ := World.cells?_some hc
        have g0 := hcell 0 (by omega)
        have g1 := hcell 1 (by omega)
        have g2 := hcell 2 (by omega)
        have g3 := hcell 3 (by omega)
        rw [Go.Deep.add_add] at g0 g1 g2 g3
        refine ⟨t, w0, w1, w2, w3, g0, g1, g2, g3, hL, fun y hy => ?_⟩
        rw [List.getElem?_eq_getElem (by omega)] at hy
        injection hy with hy
        rw [← hy]; exact hI
      rcases Nat.eq_zero_or_pos len with h0 | h0
      · subst h0
        have hE : elems = [] := List.eq_nil_of_length_eq_zero hel
        refine ⟨.node k sb.data.toList i [], _, _, _, _, rfl, ?_, ?_⟩
        · simp only [Lies]
          exact ⟨sb, _, rfl, rfl, i64_of wk, i64_of wi, ws', by simp, .inl ⟨trivial, .inr ⟨a, cap, rfl⟩⟩⟩
        · simp only [IsN]
          exact ⟨_, by subst hy3; rfl, .inr ⟨_, _, rfl, by rw [hE]; simp only [IsNL, List.map_nil]⟩⟩
      · obtain ⟨b, off, spot⟩ := a
        obtain ⟨_, u0, _, _, _, g0, _⟩ := hel2 0 h0
        have hspot : spot = none := by simpa [Addr.add] using World.cell?_spot g0
        subst hspot
        obtain ⟨l, hLL, hI⟩ := liesL_build (w := W) (F := fun _ => True) (b := b) (elems.map (·.1)) off (fun i d hd => by
          have hi : i < len := by
            have := (List.getElem?_eq_some_iff.1 hd).1
            rw [List.length_map] at this; omega
          obtain ⟨t, v0, v1, v2, v3, c0, c1, c2, c3, hL, hy⟩ := hel2 i hi
          rw [Go.WideShapes.add_plain] at c0 c1 c2 c3
          rw [List.getElem?_map, List.getElem?_eq_getElem (by omega)] at hd
          injection hd with hd
          exact ⟨t, v0, v1, v2, v3, c0, by rw [Nat.add_assoc]; exact c1, by rw [Nat.add_assoc]; exact c2, by rw [Nat.add_assoc]; exact c3, hL, by rw [← hd]; exact hy _ (List.getElem?_eq_getElem (by omega))⟩)
        have hl : l.length = len := by have := hI.len; rw [List.length_map] at this; omega
        refine ⟨.node k sb.data.toList i l, _, _, _, _, rfl, ?_, ?_⟩
        · simp only [Lies]
          refine ⟨sb, _, rfl, rfl, i64_of wk, i64_of wi, ws', by unfold maxLen at hcm; omega, .inr ⟨b, off, cap, ?_, by rw [hl], trivial, hLL⟩⟩
          intro e; subst e; simp at hl; omega
        · simp only [IsN]
          exact ⟨_, by subst hy3; rfl, .inr ⟨_, _, rfl, hI⟩⟩
/-- an argument -/
theorem open_node {H : Type} {enc : TypeId × Value → H} {W : World} {base b0 : Nat} {sp : Nat → Bool} {held : Bool} {r : Reach} {v : Value} {d : DataW H} {p : List MemPlace} (hv : Value.okWide Try.prog W r b0 49 v) (h : DataW.Trod enc Try.prog W base sp held 49 v d p) :
    ∃ t, Lies W (fun _ => True) t v ∧ IsN t d := by
  obtain ⟨fs, hs, _, _, hC, _⟩ := fields_of
  obtain ⟨cs, rfl, hsz⟩ := okWide_struct hs hv
  obtain ⟨c0, c1, c2, c3, rfl⟩ := Go.Joins.array4 (hsz.trans hC)
  obtain ⟨fuel, hf⟩ := h
  obtain ⟨t, v0, v1, v2, v3, he, hL, hI⟩ := lies_of fuel _ _ hf
  simp [Value.cells] at he
  obtain ⟨rfl, rfl, rfl, rfl⟩ := he
  exact ⟨t, hL, hI⟩
theorem weights_node {H : Type} {k c : Int} {s : List UInt8} {dl : DataW H} : DataW.weights Try.prog 49 (.agg [.lit (.int .i64 k), .lit (.string s), .lit (.int .i64 c), dl]) = s.length :: (dl.weights Try.prog 47 ++ []) := by
  obtain ⟨fs, hs, _, hfs, _, t0, t1, t2, t3⟩ := fields_of
  have hl : fs.toList.map (·.type) = [3, 9, 3, 47] := by
    obtain ⟨l⟩ := fs
    match l, hfs with
    | [a, b, c, d], _ => simp at t0 t1 t2 t3 ⊢; exact ⟨t0, t1, t2, t3⟩
  simp only [DataW.weights, hs, hl, DataW.weightsEach, List.nil_append, List.cons_append]
mutual
/-- what the form's reach says of a tree -/
theorem reach_n {H : Type} : (t : N) → (d : DataW H) → IsN t d → (∀ x ∈ d.weights Try.prog 49, x ≤ 140737488351232) → txN 140737488351232 140737488351232 t
  | .node k s c l, d, h, hw => by
    simp only [IsN] at h
    obtain ⟨dl, rfl, h⟩ := h
    rw [weights_node] at hw
    simp only [txN]
    refine ⟨hw _ (List.mem_cons_self ..), ?_⟩
    rcases h with ⟨rfl, rfl⟩ | ⟨els, spare, rfl, hI⟩
    · simp [txNL]
    · have hb : Try.prog.bytesOf 49 = 56 := by kernel_rfl
      have hx : ∀ x ∈ (DataW.slice els spare).weights Try.prog 47, x ≤ 140737488351232 := fun x hx => hw x (List.mem_cons_of_mem _ (List.mem_append_left _ hx))
      simp only [DataW.weights, Try.underlying47, hb] at hx
      refine ⟨?_, reach_nl l els hI fun x h => hx x (List.mem_cons_of_mem _ (List.mem_append_left _ h))⟩
      have h1 := hx _ (List.mem_cons_self ..)
      have h2 := hI.len
      omega
theorem reach_nl {H : Type} : (l : List N) → (ds : List (DataW H)) → IsNL l ds → (∀ x ∈ DataW.weightsAll Try.prog 49 ds, x ≤ 140737488351232) → txNL 140737488351232 140737488351232 l
  | [], _, _, _ => by simp only [txNL]
  | t :: r, ds, h, hw => by
    simp only [IsNL] at h
    obtain ⟨d, e, rfl, h1, h2⟩ := h
    simp only [DataW.weightsAll] at hw
    simp only [txNL]
    exact ⟨reach_n t d h1 fun x hx => hw x (List.mem_append_left _ hx), reach_nl r e h2 fun x hx => hw x (List.mem_append_right _ hx)⟩
end
/-- the same, out of what the row hands over -/
theorem reach_node {H : Type} {ts : List TypeId} {ds : List (DataW H)} (h : (DataW.weightsEach Try.prog ts ds).all (· ≤ reachBytes) = true) {j : Nat} {d : DataW H} {t : N} (ht : ts[j]? = some 49) (hd : ds[j]? = some d) (hI : IsN t d) : txN 140737488351232 140737488351232 t :=
  reach_n t d hI fun x hx => by
    have := List.all_eq_true.1 h _ (DataW.weights_mem_each ht hd x hx)
    unfold reachBytes at this
    simpa using this
mutual
/-- what the bound of an 'Upto' statement says of a tree -/
theorem bulk_n {H : Type} {B : Nat} : (t : N) → (d : DataW H) → IsN t d → Rows.uptoBulk d ≤ B → txN B B t ∧ szN t ≤ Rows.uptoBulk d
  | .node k s c l, d, h, hw => by
    simp only [IsN] at h
    obtain ⟨dl, rfl, h⟩ := h
    simp only [Rows.uptoBulk, Rows.uptoBulkAll] at hw ⊢
    simp only [txN, szN]
    rcases h with ⟨rfl, rfl⟩ | ⟨els, spare, rfl, hI⟩
    · simp only [Rows.uptoBulk] at hw ⊢
      refine ⟨⟨by omega, by simp, by simp only [txNL]⟩, by simp only [szNL]; omega⟩
    · simp only [Rows.uptoBulk] at hw ⊢
      obtain ⟨h1, h2⟩ := bulk_nl l els hI (B := B) (by omega)
      have := szNL_len l
      refine ⟨⟨by omega, by omega, h1⟩, by omega⟩
theorem bulk_nl {H : Type} {B : Nat} : (l : List N) → (ds : List (DataW H)) → IsNL l ds → Rows.uptoBulkAll ds ≤ B → txNL B B l ∧ szNL l ≤ Rows.uptoBulkAll ds
  | [], _, _, _ => by simp [txNL, szNL]
  | t :: r, ds, h, hw => by
    simp only [IsNL] at h
    obtain ⟨d, e, rfl, h1, h2⟩ := h
    simp only [Rows.uptoBulkAll] at hw ⊢
    obtain ⟨a1, a2⟩ := bulk_n t d h1 (B := B) (by omega)
    obtain ⟨b1, b2⟩ := bulk_nl r e h2 (B := B) (by omega)
    simp only [txNL, szNL]
    exact ⟨⟨a1, b1⟩, by omega⟩
end
theorem bulk_node {H : Type} {ds : List (DataW H)} (hk : Rows.uptoSmall H ds = true) {j : Nat} {d : DataW H} {t : N} (hd : ds[j]? = some d) (hI : IsN t d) : txN 1048576 1048576 t ∧ szN t ≤ 1048576 := by
  have h := Bulk.one hk hd
  obtain ⟨h1, h2⟩ := bulk_n t d hI h
  exact ⟨h1, Nat.le_trans h2 h⟩
end Go.Proofs.Ytohoobgbmhondaa.Nod
