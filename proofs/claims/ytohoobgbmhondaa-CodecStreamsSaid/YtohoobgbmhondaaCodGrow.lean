/- A list of values that grows by append, in memory of the call's own. -/
import Derived.Test.YtohoobgbmhondaaCodLies
import Derived.Deep.RegionLaw
import Derived.Laws.AppendOwnNone
import Derived.Deep.OwnRows
namespace Go.Proofs.Ytohoobgbmhondaa.Cod
open Go Go.RowKit

/-- each four cells are one value of the list -/
def Kids (w : World) (F : Nat → Prop) : List T → List Value → Prop
  | [], [] => True
  | t :: r, v0 :: v1 :: v2 :: v3 :: c => Lies w F t (.agg #[v0, v1, v2, v3]) ∧ Kids w F r c
  | _, _ => False
theorem Kids.map {w w' : World} {F G : Nat → Prop} (hF : ∀ b, F b → G b) (hc : ∀ b o x, F b → w.cell? ⟨b, o, none⟩ = some x → w'.cell? ⟨b, o, none⟩ = some x) : {l : List T} → {c : List Value} → Kids w F l c → Kids w' G l c
  | [], [], _ => by simp only [Kids]
  | t :: r, v0 :: v1 :: v2 :: v3 :: c, h => by
    simp only [Kids] at h ⊢
    exact ⟨Lies.map hF hc t _ h.1, Kids.map hF hc h.2⟩
  | [], _ :: _, h => by simp [Kids] at h
  | _ :: _, [], h => by simp [Kids] at h
  | _ :: _, [_], h => by simp [Kids] at h
  | _ :: _, [_, _], h => by simp [Kids] at h
  | _ :: _, [_, _, _], h => by simp [Kids] at h
theorem Kids.snoc {w : World} {F : Nat → Prop} {t : T} {a0 a1 a2 a3 : Value} (ht : Lies w F t (.agg #[a0, a1, a2, a3])) : {l : List T} → {c : List Value} → Kids w F l c → Kids w F (l ++ [t]) (c ++ [a0, a1, a2, a3])
  | [], [], _ => by simp only [List.nil_append, Kids]; exact ⟨ht, trivial⟩
  | x :: r, v0 :: v1 :: v2 :: v3 :: c, h => by
    simp only [List.cons_append, Kids] at h ⊢
    exact ⟨h.1, Kids.snoc ht h.2⟩
  | [], _ :: _, h => by simp [Kids] at h
  | _ :: _, [], h => by simp [Kids] at h
  | _ :: _, [_], h => by simp [Kids] at h
  | _ :: _, [_, _], h => by simp [Kids] at h
  | _ :: _, [_, _, _], h => by simp [Kids] at h
theorem Kids.lies {w : World} {F : Nat → Prop} {b : Nat} : {l : List T} → {c : List Value} → {off : Nat} → Kids w F l c → (∀ j u, c[j]? = some u → w.cell? ⟨b, off + j, none⟩ = some u) → LiesL w F b l off
  | [], [], _, _, _ => by simp only [LiesL]
  | t :: r, v0 :: v1 :: v2 :: v3 :: c, off, h, hc => by
    simp only [Kids] at h
    simp only [LiesL]
    refine ⟨⟨v0, v1, v2, v3, hc 0 _ rfl, hc 1 _ rfl, hc 2 _ rfl, hc 3 _ rfl, h.1⟩, Kids.lies h.2 fun j u hj => ?_⟩
    rw [show off + 4 + j = off + (j + 4) by omega]
    exact hc (j + 4) u (by simpa using hj)
  | [], _ :: _, _, h, _ => by simp [Kids] at h
  | _ :: _, [], _, h, _ => by simp [Kids] at h
  | _ :: _, [_], _, h, _ => by simp [Kids] at h
  | _ :: _, [_, _], _, h, _ => by simp [Kids] at h
  | _ :: _, [_, _, _], _, h, _ => by simp [Kids] at h

/-- the slice v is this list; all of it lies in blocks from base on -/
def Grows (w : World) (base : Nat) (ty : TypeId) (v : Value) (l : List T) : Prop :=
  ∃ cells, w.ownsRow base ty 4 v l.length cells ∧ Kids w (fun b => base ≤ b ∧ b < w.heap.size ∧ some b ≠ v.ownBlock) l cells
theorem Grows.nil (w : World) (base : Nat) (ty : TypeId) : Grows w base ty (.slice none 0 0) [] := ⟨[], World.ownsRow_nil _ _ _ _, by simp only [Kids]⟩
theorem Grows.keep {w w' : World} {base : Nat} {ty : TypeId} {v : Value} {l : List T} (h : Grows w base ty v l) (hs : w.heap.size ≤ w'.heap.size) (hb : ∀ b, base ≤ b → b < w.heap.size → w'.heap[b]? = w.heap[b]?) : Grows w' base ty v l := by
  obtain ⟨cells, h1, h2⟩ := h
  refine ⟨cells, ⟨h1.1, ?_⟩, Kids.map (fun b hf => ⟨hf.1, Nat.lt_of_lt_of_le hf.2.1 hs, hf.2.2⟩) (fun b o x hf hx => (World.cell?_of_block (hb b hf.1 hf.2.1)).trans hx) h2⟩
  rcases h1.2 with hn | ⟨g, cap, cur, rfl, hbg, hgg, rest⟩
  · exact .inl hn
  · exact .inr ⟨g, cap, cur, rfl, hbg, (hb g hbg (Array.getElem?_eq_some_iff.1 hgg).1).trans hgg, rest⟩
theorem Grows.below {w w' : World} {base : Nat} {ty : TypeId} {v : Value} {l : List T} (h : Grows w base ty v l) (hb : Below w.heap.size w w') : Grows w' base ty v l :=
  h.keep hb.size fun b _ hlt => hb.block b hlt
theorem Grows.setCell {w : World} {base : Nat} {ty : TypeId} {v : Value} {l : List T} (h : Grows w base ty v l) {a : Addr} (ha : a.block < base) (u : Value) : Grows (w.setCell a u) base ty v l :=
  h.keep (by simp) fun b hb _ => Go.Deep.blk_setCell_other _ _ _ _ (by omega)
theorem Grows.append {w w' : World} {base : Nat} {ty : TypeId} {v v' : Value} {l : List T} {t : T} {a0 a1 a2 a3 : Value} (h : Grows w base ty v l)
    (ht : Lies w (fun b => base ≤ b ∧ b < w.heap.size ∧ some b ≠ v.ownBlock) t (.agg #[a0, a1, a2, a3]))
    (ho : ∀ cells, w.ownsRow base ty 4 v l.length cells → w'.ownsRow base ty 4 v' (l.length + 1) (cells ++ [a0, a1, a2, a3])) (hg : w.grownBy w' v.ownBlock) (hat : v'.ownBlock = v.ownBlock ∨ v'.ownBlock = some w.heap.size) :
    Grows w' base ty v' (l ++ [t]) := by
  obtain ⟨cells, h1, h2⟩ := h
  refine ⟨cells ++ [a0, a1, a2, a3], by rw [List.length_append]; exact ho cells h1, ?_⟩
  refine Kids.map (fun b hf => ⟨hf.1, Nat.lt_of_lt_of_le hf.2.1 hg.size, ?_⟩) (fun b o x hf hx => hg.cell hx hf.2.2) (Kids.snoc ht h2)
  rcases hat with e | e
  · rw [e]; exact hf.2.2
  · rw [e]; intro e2; have := Option.some.inj e2; have := hf.2.1; omega
theorem Grows.at {w : World} {base : Nat} {ty : TypeId} {v : Value} {l : List T} (h : Grows w base ty v l) : ∃ A c, v = .slice A l.length c ∧ (A = none → c = 0) ∧ ListAt w (fun b => base ≤ b ∧ b < w.heap.size) A l := by
  obtain ⟨cells, h1, h2⟩ := h
  have hk : Kids w (fun b => base ≤ b ∧ b < w.heap.size) l cells := Kids.map (fun b hf => ⟨hf.1, hf.2.1⟩) (fun _ _ _ _ h => h) h2
  rcases h1.2 with ⟨rfl, hn⟩ | ⟨g, cap, cur, rfl, hbg, hgg, rest⟩
  · exact ⟨none, 0, by rw [hn], fun _ => rfl, .inl (List.eq_nil_of_length_eq_zero hn)⟩
  · refine ⟨some ⟨g, 0, none⟩, cap, rfl, fun h => (by cases h), .inr ⟨g, 0, rfl, ⟨hbg, (Array.getElem?_eq_some_iff.1 hgg).1⟩, Kids.lies hk fun j u hj => ?_⟩⟩
    have := h1.cells (g := g) rfl j u hj
    rcases j with _ | j <;> simpa [Addr.add] using this
theorem Grows.own_lt {w : World} {base : Nat} {ty : TypeId} {v : Value} {l : List T} (h : Grows w base ty v l) {b : Nat} (hb : w.heap.size ≤ b) : some b ≠ v.ownBlock := by
  obtain ⟨cells, h1, _⟩ := h
  intro e
  have := (h1.lt b e.symm).2
  omega
theorem ListAt.map {w w' : World} {F G : Nat → Prop} {A : Option Addr} {l : List T} (h : ListAt w F A l) (hF : ∀ b, F b → G b) (hc : ∀ b o x, F b → w.cell? ⟨b, o, none⟩ = some x → w'.cell? ⟨b, o, none⟩ = some x) : ListAt w' G A l := by
  rcases h with h | ⟨b, off, h1, h2, h3⟩
  · exact .inl h
  · exact .inr ⟨b, off, h1, hF b h2, LiesL.map hF hc h2 l off h3⟩
theorem ListAt.set4 {w : World} {F : Nat → Prop} {A : Option Addr} {l : List T} (h : ListAt w F A l) {B : Nat} (hF : ∀ b, F b → b ≠ B) (x0 x1 x2 x3 : Value) :
    ListAt ((((w.setCell ⟨B, 0, none⟩ x0).setCell ⟨B, 1, none⟩ x1).setCell ⟨B, 2, none⟩ x2).setCell ⟨B, 3, none⟩ x3) F A l :=
  h.map (fun _ h => h) fun b o x hf hx => by
    have hne : ∀ q, (⟨B, q, none⟩ : Addr) ≠ ⟨b, o, none⟩ := fun q e => hF b hf (by injection e with e1 _; exact e1.symm)
    rw [World.cell?_setCell_other _ _ _ _ (hne 3), World.cell?_setCell_other _ _ _ _ (hne 2), World.cell?_setCell_other _ _ _ _ (hne 1), World.cell?_setCell_other _ _ _ _ (hne 0)]
    exact hx
theorem below_set4 {n : Nat} {a w : World} (h : Below n a w) {B : Nat} (hB : n ≤ B) (x0 x1 x2 x3 : Value) :
    Below n a ((((w.setCell ⟨B, 0, none⟩ x0).setCell ⟨B, 1, none⟩ x1).setCell ⟨B, 2, none⟩ x2).setCell ⟨B, 3, none⟩ x3) := (((h.setCell hB _).setCell hB _).setCell hB _).setCell hB _
theorem set4_cells {w : World} {B : Nat} {y0 y1 y2 y3 : Value} (h0 : w.cell? ⟨B, 0, none⟩ = some y0) (h1 : w.cell? ⟨B, 1, none⟩ = some y1) (h2 : w.cell? ⟨B, 2, none⟩ = some y2) (h3 : w.cell? ⟨B, 3, none⟩ = some y3) (x0 x1 x2 x3 : Value) {w' : World}
    (hw : w' = (((w.setCell ⟨B, 0, none⟩ x0).setCell ⟨B, 1, none⟩ x1).setCell ⟨B, 2, none⟩ x2).setCell ⟨B, 3, none⟩ x3) :
    w'.cell? ⟨B, 0, none⟩ = some x0 ∧ w'.cell? ⟨B, 1, none⟩ = some x1 ∧ w'.cell? ⟨B, 2, none⟩ = some x2 ∧ w'.cell? ⟨B, 3, none⟩ = some x3 := by
  have ne : ∀ {p q : Nat}, p ≠ q → (⟨B, p, none⟩ : Addr) ≠ ⟨B, q, none⟩ := fun h e => h (by injection e)
  subst hw
  have a0 := World.cell?_setCell_same w ⟨B, 0, none⟩ x0 h0
  have a1 := World.cell?_setCell_same (w.setCell ⟨B, 0, none⟩ x0) ⟨B, 1, none⟩ x1 ((World.cell?_setCell_other w _ _ x0 (ne (by omega : 0 ≠ 1))).trans h1)
  have a2 := World.cell?_setCell_same ((w.setCell ⟨B, 0, none⟩ x0).setCell ⟨B, 1, none⟩ x1) ⟨B, 2, none⟩ x2 ((World.cell?_setCell_other _ _ _ x1 (ne (by omega : 1 ≠ 2))).trans ((World.cell?_setCell_other w _ _ x0 (ne (by omega : 0 ≠ 2))).trans h2))
  have a3 := World.cell?_setCell_same (((w.setCell ⟨B, 0, none⟩ x0).setCell ⟨B, 1, none⟩ x1).setCell ⟨B, 2, none⟩ x2) ⟨B, 3, none⟩ x3 ((World.cell?_setCell_other _ _ _ x2 (ne (by omega : 2 ≠ 3))).trans ((World.cell?_setCell_other _ _ _ x1 (ne (by omega : 1 ≠ 3))).trans ((World.cell?_setCell_other w _ _ x0 (ne (by omega : 0 ≠ 3))).trans h3)))
  refine ⟨?_, ?_, ?_, a3⟩
  · exact (World.cell?_setCell_other _ _ _ x3 (ne (by omega : 3 ≠ 0))).trans ((World.cell?_setCell_other _ _ _ x2 (ne (by omega : 2 ≠ 0))).trans ((World.cell?_setCell_other _ _ _ x1 (ne (by omega : 1 ≠ 0))).trans a0))
  · exact (World.cell?_setCell_other _ _ _ x3 (ne (by omega : 3 ≠ 1))).trans ((World.cell?_setCell_other _ _ _ x2 (ne (by omega : 2 ≠ 1))).trans a1)
  · exact (World.cell?_setCell_other _ _ _ x3 (ne (by omega : 3 ≠ 2))).trans a2
/-- a value out of its parts -/
theorem Lies.mk {w : World} {F : Nat → Prop} {k i : Int} {sb : ByteArray} {A : Option Addr} {c : Nat} {s : List UInt8} {l : List T} (hs : sb.data.toList = s) (hk : I64 k) (hi : I64 i) (h1 : s.length ≤ 9223372036854775807) (h2 : l.length ≤ 9223372036854775807)
    (hA : ListAt w F A l) (h0 : A = none → c = 0) : Lies w F (.node k i s l) (.agg #[.int .i64 k, .int .i64 i, .string sb, .slice A l.length c]) := by
  simp only [Lies]
  refine ⟨sb, _, rfl, hs, hk, hi, h1, h2, ?_⟩
  by_cases hl : l = []
  · left
    subst hl
    refine ⟨rfl, ?_⟩
    cases A with
    | none => left; rw [h0 rfl]; rfl
    | some ad => exact .inr ⟨ad, c, rfl⟩
  · right
    rcases hA with h | ⟨b, off, rfl, hb, hL⟩
    · exact absurd h hl
    · exact ⟨b, off, c, hl, rfl, hb, hL⟩
theorem Grows.low {w : World} {base : Nat} {ty : TypeId} {v : Value} {l : List T} (h : Grows w base ty v l) {b : Nat} (hb : b < base) : some b ≠ v.ownBlock := by
  obtain ⟨cells, h1, _⟩ := h
  intro e
  have := (h1.lt b e.symm).1
  omega
theorem Grows.owns {w : World} {base : Nat} {ty : TypeId} {v : Value} {l : List T} {n : Nat} (h : Grows w base ty v l) (hn : l.length = n) : ∃ cells, w.ownsRow base ty 4 v n cells := by
  obtain ⟨cells, h1, _⟩ := h
  subst hn
  exact ⟨cells, h1⟩

/-- a value in the block X whose list grows -/
structure OutS (W1 w : World) (X : Nat) (ty : TypeId) (k i : Int) (sb : ByteArray) (v : Value) (l : List T) : Prop where
  c0 : w.cell? ⟨X, 0, none⟩ = some (.int .i64 k)
  c1 : w.cell? ⟨X, 1, none⟩ = some (.int .i64 i)
  c2 : w.cell? ⟨X, 2, none⟩ = some (.string sb)
  c3 : w.cell? ⟨X, 3, none⟩ = some v
  free : ∀ j, w.frozen? ⟨X, j, none⟩ = false
  grows : Grows w (X + 1) ty v l
  below : Below X W1 w
  lt : X < w.heap.size
theorem OutS.go {W1 w w' : World} {X : Nat} {ty : TypeId} {k i : Int} {sb : ByteArray} {v : Value} {l : List T} (h : OutS W1 w X ty k i sb v l) (hb : Below w.heap.size w w') : OutS W1 w' X ty k i sb v l :=
  ⟨old_cell hb h.c0 h.lt, old_cell hb h.c1 h.lt, old_cell hb h.c2 h.lt, old_cell hb h.c3 h.lt, fun j => (hb.frozen (p := ⟨X, j, none⟩) h.lt).trans (h.free j), h.grows.below hb, h.below.trans (hb.mono (Nat.le_of_lt h.lt)), Nat.lt_of_lt_of_le h.lt hb.size⟩
theorem OutS.drew {W1 w : World} {X : Nat} {ty : TypeId} {k i : Int} {sb : ByteArray} {v : Value} {l : List T} (h : OutS W1 w X ty k i sb v l) : OutS W1 w.drew X ty k i sb v l :=
  h.go ⟨rfl, rfl, rfl, Nat.le_refl _, fun _ _ => rfl⟩
/-- behind an append, ahead of the store -/
theorem OutS.grown {W1 w w' : World} {X : Nat} {ty : TypeId} {k i : Int} {sb : ByteArray} {v : Value} {l : List T} (h : OutS W1 w X ty k i sb v l) (hg : w.grownBy w' v.ownBlock) :
    w'.cell? ⟨X, 0, none⟩ = some (.int .i64 k) ∧ w'.cell? ⟨X, 1, none⟩ = some (.int .i64 i) ∧ w'.cell? ⟨X, 2, none⟩ = some (.string sb) ∧ w'.cell? ⟨X, 3, none⟩ = some v ∧ (∀ j, w'.frozen? ⟨X, j, none⟩ = false) := by
  have hne : some X ≠ v.ownBlock := h.grows.low (Nat.lt_succ_self X)
  exact ⟨hg.cell h.c0 hne, hg.cell h.c1 hne, hg.cell h.c2 hne, hg.cell h.c3 hne, fun j => (World.frozen?_of_block (hg.block X h.lt hne)).trans (h.free j)⟩
theorem OutS.next {W1 w w' : World} {X : Nat} {ty : TypeId} {k i : Int} {sb : ByteArray} {v v' : Value} {l : List T} {t : T} {a0 a1 a2 a3 : Value} (h : OutS W1 w X ty k i sb v l)
    (ht : Lies w (fun b => X < b ∧ b < w.heap.size ∧ some b ≠ v.ownBlock) t (.agg #[a0, a1, a2, a3]))
    (ho : ∀ cells, w.ownsRow (X + 1) ty 4 v l.length cells → w'.ownsRow (X + 1) ty 4 v' (l.length + 1) (cells ++ [a0, a1, a2, a3])) (hg : w.grownBy w' v.ownBlock) (hat : v'.ownBlock = v.ownBlock ∨ v'.ownBlock = some w.heap.size) :
    OutS W1 (w'.setCell ⟨X, 3, none⟩ v') X ty k i sb v' (l ++ [t]) := by
  obtain ⟨e0, e1, e2, e3, ef⟩ := h.grown hg
  have hgr : Grows w' (X + 1) ty v' (l ++ [t]) := h.grows.append (Lies.mono ht fun b hb => ⟨hb.1, hb.2.1, hb.2.2⟩) ho hg hat
  have hb : Below X W1 w' := h.below.grown hg (Nat.le_of_lt h.lt) fun q hq => by
    have := h.grows.low (b := q)
    rcases Nat.lt_or_ge q (X + 1) with hlt | hge
    · exact absurd hq.symm (this hlt)
    · omega
  have hl : X < w'.heap.size := Nat.lt_of_lt_of_le h.lt hg.size
  refine ⟨?_, ?_, ?_, ?_, ?_, hgr.setCell (Nat.lt_succ_self X) _, hb.setCell (Nat.le_refl X) _, by simpa using hl⟩
  · exact (World.cell?_setCell_other _ _ _ _ (by simp)).trans e0
  · exact (World.cell?_setCell_other _ _ _ _ (by simp)).trans e1
  · exact (World.cell?_setCell_other _ _ _ _ (by simp)).trans e2
  · exact World.cell?_setCell_same _ _ _ e3
  · intro j; rw [World.frozen?_setCell]; exact ef j
/-- append of one value, as a step of a region that draws its order -/
theorem step_append_own {P : Program} {ops : Array Oper} {o : Oper} {a : Act} {w : World} {K : Act → World → Prop} {Q : Exit → Act → World → Prop} {E : Prop}
    (hg : o.guard = none) (s x : Operand) (t : TypeId) (hop : o.op = Op.call { callee := Callee.builtin Builtin.append, args := #[s, x], argTypes := #[t, t] })
    (base : Nat) (e : TypeId) (i : TypeInfo) (z : Value) (size bytes : Nat) (ht : P.underlying t = some (.slice e)) (hi : P.info? e = some i) (hz : i.zero = some z)
    (hsize : i.size = size) (hby : i.bytes = bytes) (hzs : z.cells.size = size) (hsz : 0 < size)
    (v : Value) (n : Nat) (hs : a.eval s = v) (hown : ∃ xs, w.ownsRow base e size v n xs)
    (ad : Addr) (m c : Nat) (news : List Value) (hx : a.eval x = .slice (some ad) m c) (hl : news.length = m * size) (hnews : ∀ j u, news[j]? = some u → w.cell? (ad.add j) = some u) (h1 : ∀ u ∈ news, u.oneCell' = true)
    (h63 : n + m ≤ maxLen) (hbytes : (n + m) * bytes ≤ 140737488355328) (hbase : base ≤ w.heap.size)
    (h : ∀ A' c' w', (∀ xs, w.ownsRow base e size v n xs → w'.ownsRow base e size (.slice A' (n + m) c') (n + m) (xs ++ news)) → w.grownBy w' v.ownBlock → ((Value.slice A' (n + m) c').ownBlock = v.ownBlock ∨ (Value.slice A' (n + m) c').ownBlock = some w.heap.size) → K (a.put o.dst (.slice A' (n + m) c')) w') :
    if Region.wanted o (yielded ops a.tmps) = true then Oper.wp P o a w K Q else E := by
  have hw : Region.wanted o (yielded ops a.tmps) = true := by simp [Region.wanted, hg]
  rw [if_pos hw]
  obtain ⟨xs, hown⟩ := hown
  obtain ⟨v', w', hr, h2, h3, h4, h5⟩ := run_append_own_at (P := P) w base t o.type e i z size bytes ht hi hz hsize hby hzs hsz v n xs hown ad m c news hl hnews h1 h63 hbytes hbase
  unfold Oper.wp execOp
  simp only [hop, resolve, invoke, builtin, Sem.run_bind, Sem.run_pure, Result.andThen_ok, List.map_toArray, List.map_cons, List.map_nil, hs, hx, hr]
  have hf : ∃ A' c', v' = .slice A' (n + m) c' := by
    rcases h2.2 with ⟨e1, e2⟩ | ⟨g, cap, cur, e1, _⟩
    · exact ⟨none, 0, by rw [e1, e2]⟩
    · exact ⟨_, _, e1⟩
  obtain ⟨A', c', rfl⟩ := hf
  refine h A' c' w' (fun ys hy => ?_) h3 h5
  obtain ⟨v2, w2, hr2, h22, _⟩ := run_append_own_at (P := P) w base t o.type e i z size bytes ht hi hz hsize hby hzs hsz v n ys hy ad m c news hl hnews h1 h63 hbytes hbase
  rw [hr] at hr2
  cases hr2
  exact h22
theorem Lies.set4 {w : World} {F : Nat → Prop} {t : T} {v : Value} (h : Lies w F t v) {B : Nat} (hF : ∀ b, F b → b ≠ B) (x0 x1 x2 x3 : Value) :
    Lies ((((w.setCell ⟨B, 0, none⟩ x0).setCell ⟨B, 1, none⟩ x1).setCell ⟨B, 2, none⟩ x2).setCell ⟨B, 3, none⟩ x3) F t v :=
  Lies.map (fun _ h => h) (fun b o x hb hx => by
    have ne : ∀ j, (⟨B, j, none⟩ : Addr) ≠ ⟨b, o, none⟩ := fun j e => hF b hb (by injection e with e1; exact e1.symm)
    exact (World.cell?_setCell_other _ _ _ _ (ne 3)).trans ((World.cell?_setCell_other _ _ _ _ (ne 2)).trans ((World.cell?_setCell_other _ _ _ _ (ne 1)).trans ((World.cell?_setCell_other _ _ _ _ (ne 0)).trans hx)))) t v h
end Go.Proofs.Ytohoobgbmhondaa.Cod
