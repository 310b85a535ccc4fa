/- A value of package codec, or of its reference, lies in memory as a tree. -/
import Derived.Test.YtohoobgbmhondaaRows
import Derived.Test.YtohoobgbmhondaaCodMath2
import Derived.WalkKit
import Derived.ProofKit
import Derived.Below
import Derived.OpenShut
import Derived.Deep.QuietTactic
import Derived.BigQuiet
import Derived.RegionTactic
import Derived.ChangeAlike
import Derived.Outline
import Derived.Lib.Hide
import Derived.Lib.SmallJoins
import Derived.IntWalk
import Derived.Maps.AppendAt
import Derived.Deep.RegionHeld3
namespace Go.Proofs.Ytohoobgbmhondaa.Cod
open Go Go.RowKit Go.ChangeShapes Go.WideShapes

def I64 (n : Int) : Prop := -9223372036854775808 ≤ n ∧ n ≤ 9223372036854775807
mutual
/-- the value is this tree; the memory of its lists lies in blocks of F -/
def Lies (w : World) (F : Nat → Prop) : T → Value → Prop
  | .node k i s l, v => ∃ (sb : ByteArray) (sl : Value), v = .agg #[.int .i64 k, .int .i64 i, .string sb, sl] ∧ sb.data.toList = s ∧ I64 k ∧ I64 i ∧ s.length ≤ 9223372036854775807 ∧ l.length ≤ 9223372036854775807 ∧
      ((l = [] ∧ (sl = .slice none 0 0 ∨ ∃ ad c, sl = .slice (some ad) 0 c)) ∨ ∃ b off c, l ≠ [] ∧ sl = .slice (some ⟨b, off, none⟩) l.length c ∧ F b ∧ LiesL w F b l off)
def LiesL (w : World) (F : Nat → Prop) (b : Nat) : List T → Nat → Prop
  | [], _ => True
  | t :: r, off => (∃ v0 v1 v2 v3, w.cell? ⟨b, off, none⟩ = some v0 ∧ w.cell? ⟨b, off + 1, none⟩ = some v1 ∧ w.cell? ⟨b, off + 2, none⟩ = some v2 ∧ w.cell? ⟨b, off + 3, none⟩ = some v3 ∧ Lies w F t (.agg #[v0, v1, v2, v3])) ∧ LiesL w F b r (off + 4)
end

mutual
theorem Lies.map {w w' : World} {F G : Nat → Prop} (hF : ∀ b, F b → G b) (hc : ∀ b o x, F b → w.cell? ⟨b, o, none⟩ = some x → w'.cell? ⟨b, o, none⟩ = some x) : (t : T) → (v : Value) → Lies w F t v → Lies w' G t v
  | .node k i s l, v, h => by
    simp only [Lies] at h ⊢
    obtain ⟨sb, sl, rfl, h1, h2, h3, h4, h5, h6⟩ := h
    refine ⟨sb, sl, rfl, h1, h2, h3, h4, h5, ?_⟩
    rcases h6 with h6 | ⟨b, off, c, hne, h6, h7, h8⟩
    · exact .inl h6
    · exact .inr ⟨b, off, c, hne, h6, hF b h7, LiesL.map hF hc h7 l off h8⟩
theorem LiesL.map {w w' : World} {F G : Nat → Prop} (hF : ∀ b, F b → G b) (hc : ∀ b o x, F b → w.cell? ⟨b, o, none⟩ = some x → w'.cell? ⟨b, o, none⟩ = some x) {b : Nat} (hb : F b) : (l : List T) → (off : Nat) → LiesL w F b l off → LiesL w' G b l off
  | [], _, _ => by simp only [LiesL]
  | t :: r, off, h => by
    simp only [LiesL] at h ⊢
    obtain ⟨⟨v0, v1, v2, v3, c0, c1, c2, c3, ht⟩, hr⟩ := h
    exact ⟨⟨v0, v1, v2, v3, hc _ _ _ hb c0, hc _ _ _ hb c1, hc _ _ _ hb c2, hc _ _ _ hb c3, Lies.map hF hc t _ ht⟩, LiesL.map hF hc hb r _ hr⟩
end
theorem Lies.below {w w' : World} {F : Nat → Prop} {t : T} {v : Value} (h : Lies w F t v) (hb : Below w.heap.size w w') : Lies w' F t v :=
  Lies.map (fun _ h => h) (fun _ _ _ _ hx => (hb.cell (World.block_lt_of_cell? _ _ hx)).trans hx) t v h
theorem LiesL.below {w w' : World} {F : Nat → Prop} {b : Nat} {l : List T} {off : Nat} (h : LiesL w F b l off) (hF : F b) (hb : Below w.heap.size w w') : LiesL w' F b l off :=
  LiesL.map (fun _ h => h) (fun _ _ _ _ hx => (hb.cell (World.block_lt_of_cell? _ _ hx)).trans hx) hF l off h
/-- blocks below a bound that stay as they are -/
theorem Lies.keep {w w' : World} {n : Nat} {F : Nat → Prop} {t : T} {v : Value} (h : Lies w F t v) (hF : ∀ b, F b → b < n) (hb : Below n w w') : Lies w' F t v :=
  Lies.map (fun _ h => h) (fun b _ _ hf hx => (hb.cell (hF b hf)).trans hx) t v h
theorem Lies.mono {w : World} {F G : Nat → Prop} {t : T} {v : Value} (h : Lies w F t v) (hF : ∀ b, F b → G b) : Lies w G t v := Lies.map hF (fun _ _ _ _ h => h) t v h
theorem LiesL.get {w : World} {F : Nat → Prop} {b : Nat} : {l : List T} → {off j : Nat} → LiesL w F b l off → (h : j < l.length) →
    ∃ v0 v1 v2 v3, w.cell? ⟨b, off + j * 4, none⟩ = some v0 ∧ w.cell? ⟨b, off + j * 4 + 1, none⟩ = some v1 ∧ w.cell? ⟨b, off + j * 4 + 2, none⟩ = some v2 ∧ w.cell? ⟨b, off + j * 4 + 3, none⟩ = some v3 ∧ Lies w F l[j] (.agg #[v0, v1, v2, v3])
  | t :: r, off, 0, h, _ => by simp only [LiesL] at h; simpa using h.1
  | t :: r, off, j + 1, h, hj => by
    simp only [LiesL] at h
    have := LiesL.get (j := j) h.2 (by simpa using hj)
    rw [show off + (j + 1) * 4 = off + 4 + j * 4 by omega]
    simpa using this
theorem LiesL.snoc {w : World} {F : Nat → Prop} {b : Nat} {t : T} {v0 v1 v2 v3 : Value} : {l : List T} → {off : Nat} → LiesL w F b l off → w.cell? ⟨b, off + l.length * 4, none⟩ = some v0 → w.cell? ⟨b, off + l.length * 4 + 1, none⟩ = some v1 →
    w.cell? ⟨b, off + l.length * 4 + 2, none⟩ = some v2 → w.cell? ⟨b, off + l.length * 4 + 3, none⟩ = some v3 → Lies w F t (.agg #[v0, v1, v2, v3]) → LiesL w F b (l ++ [t]) off
  | [], off, _, c0, c1, c2, c3, h => by
    simp only [List.nil_append, LiesL]
    exact ⟨⟨v0, v1, v2, v3, by simpa using c0, by simpa using c1, by simpa using c2, by simpa using c3, h⟩, trivial⟩
  | x :: r, off, hl, c0, c1, c2, c3, h => by
    simp only [List.cons_append, LiesL] at hl ⊢
    have e : off + (x :: r).length * 4 = off + 4 + r.length * 4 := by simp only [List.length_cons]; omega
    rw [e] at c0 c1 c2 c3
    exact ⟨hl.1, LiesL.snoc hl.2 c0 c1 c2 c3 h⟩
theorem Lies.drew {w : World} {F : Nat → Prop} {t : T} {v : Value} (h : Lies w F t v) : Lies w.drew F t v := h.below ⟨rfl, rfl, rfl, Nat.le_refl _, fun _ _ => rfl⟩
theorem below_drewN {B : Nat} {a w : World} (h : Below B a w) (n : Nat) : Below B a (w.drewN n) := ⟨h.os, h.tape, h.output, h.size, h.block⟩
theorem below_drew {B : Nat} {a w : World} (h : Below B a w) : Below B a w.drew := ⟨h.os, h.tape, h.output, h.size, h.block⟩
theorem below_go {B : Nat} {a w w' : World} (h : Below B a w) (hB : B ≤ w.heap.size) (hb : Below w.heap.size w w') : Below B a w' := h.trans (hb.mono hB)
theorem below_self {a w w' : World} (h : Below a.heap.size a w) (hb : Below w.heap.size w w') : Below a.heap.size a w' := h.trans (hb.mono h.size)
theorem new_cell {w : World} {n : Nat} (hn : w.heap.size = n) (cs : Array Value) (ty : TypeId) (j : Nat) {v : Value} (h : cs[j]? = some v) : (w.alloc (.cells cs ty)).cell? ⟨n, j, none⟩ = some v := by subst hn; simp [h]
theorem new_frozen {w : World} {n : Nat} (hn : w.heap.size = n) (cs : Array Value) (ty : TypeId) (j : Nat) : (w.alloc (.cells cs ty)).frozen? ⟨n, j, none⟩ = false := by subst hn; simp
theorem below_new (w : World) (o : Obj) : Below w.heap.size w (w.alloc o) := (Below.refl _ _).alloc (Nat.le_refl _) _
theorem size_new {w : World} {n : Nat} (hn : w.heap.size = n) (o : Obj) : (w.alloc o).heap.size = n + 1 := by subst hn; simp
theorem old_cell {n : Nat} {w w' : World} {b o : Nat} {v : Value} (hb : Below n w w') (h : w.cell? ⟨b, o, none⟩ = some v) (hlt : b < n) : w'.cell? ⟨b, o, none⟩ = some v := (hb.cell hlt).trans h
theorem ret_nat {a b : Nat} (h : a = b) : Ending.returned (.int .i64 (a : Int)) = .returned (.int .i64 (b : Int)) := by rw [h]
theorem ret_int {a b : Int} (h : a = b) : Ending.returned (.int .i64 a) = .returned (.int .i64 b) := by rw [h]
theorem ret_bool {a b : Bool} (h : a = b) : Ending.returned (.bool a) = .returned (.bool b) := by rw [h]
/-- the slice with this address is this list -/
def ListAt (w : World) (F : Nat → Prop) (A : Option Addr) (l : List T) : Prop := l = [] ∨ ∃ b off, A = some ⟨b, off, none⟩ ∧ F b ∧ LiesL w F b l off
theorem Lies.node {w : World} {F : Nat → Prop} {k i : Int} {s : List UInt8} {l : List T} {v : Value} (h : Lies w F (.node k i s l) v) :
    ∃ (sb : ByteArray) (A : Option Addr) (c : Nat), v = .agg #[.int .i64 k, .int .i64 i, .string sb, .slice A l.length c] ∧ sb.data.toList = s ∧ I64 k ∧ I64 i ∧ s.length ≤ 9223372036854775807 ∧ l.length ≤ 9223372036854775807 ∧ ListAt w F A l := by
  simp only [Lies] at h
  obtain ⟨sb, sl, rfl, h1, h2, h3, h4, h5, h6⟩ := h
  rcases h6 with ⟨rfl, rfl | ⟨ad, c, rfl⟩⟩ | ⟨b, off, c, _, rfl, h7, h8⟩
  · exact ⟨sb, none, 0, rfl, h1, h2, h3, h4, h5, .inl rfl⟩
  · exact ⟨sb, some ad, c, rfl, h1, h2, h3, h4, h5, .inl rfl⟩
  · exact ⟨sb, _, c, rfl, h1, h2, h3, h4, h5, .inr ⟨b, off, rfl, h7, h8⟩⟩
theorem Lies.shape {w : World} {F : Nat → Prop} {t : T} {v0 v1 v2 v3 : Value} (h : Lies w F t (.agg #[v0, v1, v2, v3])) :
    ∃ (a b : Int) (sb : ByteArray) (A : Option Addr) (n c : Nat), v0 = .int .i64 a ∧ v1 = .int .i64 b ∧ v2 = .string sb ∧ v3 = .slice A n c := by
  cases t with
  | node k i s l =>
    obtain ⟨sb, A, c, hv, _⟩ := h.node
    simp at hv
    exact ⟨k, i, sb, A, l.length, c, hv.1, hv.2.1, hv.2.2.1, hv.2.2.2⟩
theorem ListAt.below {w w' : World} {F : Nat → Prop} {A : Option Addr} {l : List T} (h : ListAt w F A l) (hb : Below w.heap.size w w') : ListAt w' F A l := by
  rcases h with h | ⟨b, off, h1, h2, h3⟩
  · exact .inl h
  · exact .inr ⟨b, off, h1, h2, h3.below h2 hb⟩
theorem ListAt.below' {w w' : World} {F : Nat → Prop} {A : Option Addr} {l : List T} {n : Nat} (h : ListAt w F A l) (hb : Below n w w') (hF : ∀ b, F b → b < n) : ListAt w' F A l := by
  rcases h with h | ⟨b, off, h1, h2, h3⟩
  · exact .inl h
  · exact .inr ⟨b, off, h1, h2, LiesL.map (fun _ h => h) (fun b _ _ hf hx => (hb.cell (hF b hf)).trans hx) h2 l off h3⟩
theorem ListAt.get {w : World} {F : Nat → Prop} {A : Option Addr} {l : List T} (h : ListAt w F A l) {j : Nat} (hj : j < l.length) :
    ∃ b off v0 v1 v2 v3, A = some ⟨b, off, none⟩ ∧ F b ∧ w.cell? ⟨b, off + j * 4, none⟩ = some v0 ∧ w.cell? ⟨b, off + j * 4 + 1, none⟩ = some v1 ∧ w.cell? ⟨b, off + j * 4 + 2, none⟩ = some v2 ∧ w.cell? ⟨b, off + j * 4 + 3, none⟩ = some v3 ∧ Lies w F l[j] (.agg #[v0, v1, v2, v3]) := by
  rcases h with rfl | ⟨b, off, h1, h2, h3⟩
  · simp at hj
  · obtain ⟨v0, v1, v2, v3, h⟩ := h3.get hj
    exact ⟨b, off, v0, v1, v2, v3, h1, h2, h⟩
theorem ListAt.at {w : World} {F : Nat → Prop} {A : Option Addr} {l : List T} (h : ListAt w F A l) {j : Nat} (hj : j < l.length) :
    ∃ (b off : Nat) (a i : Int) (sb : ByteArray) (B : Option Addr) (n c : Nat), A = some ⟨b, off, none⟩ ∧ F b ∧ w.cell? ⟨b, off + j * 4, none⟩ = some (.int .i64 a) ∧ w.cell? ⟨b, off + j * 4 + 1, none⟩ = some (.int .i64 i) ∧
      w.cell? ⟨b, off + j * 4 + 2, none⟩ = some (.string sb) ∧ w.cell? ⟨b, off + j * 4 + 3, none⟩ = some (.slice B n c) ∧ Lies w F l[j] (.agg #[.int .i64 a, .int .i64 i, .string sb, .slice B n c]) := by
  obtain ⟨b, off, v0, v1, v2, v3, h1, h2, c0, c1, c2, c3, h3⟩ := h.get hj
  obtain ⟨a, i, sb, B, n, c, rfl, rfl, rfl, rfl⟩ := h3.shape
  exact ⟨b, off, a, i, sb, B, n, c, h1, h2, c0, c1, c2, c3, h3⟩
end Go.Proofs.Ytohoobgbmhondaa.Cod
