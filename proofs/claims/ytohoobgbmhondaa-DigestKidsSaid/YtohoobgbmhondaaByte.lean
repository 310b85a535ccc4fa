/- Byte strings in memory: those that came in, and those that the call made itself. -/
import Derived.Test.YtohoobgbmhondaaRows
import Derived.WalkKit
import Derived.ProofKit
import Derived.Below
import Derived.OpenShut
import Derived.Deep.QuietTactic
import Derived.BigQuiet
import Derived.RegionTactic
import Derived.ChangeAlike
import Derived.Outline
import Derived.Lib.Hide
import Derived.Lib.SmallJoins
import Derived.IntWalk
import Derived.Maps.AppendAt
import Derived.Deep.RegionHeld3
import Derived.Deep.OwnRows
import Derived.Deep.Slices
import Derived.Lib.AppendStr
import Derived.Laws.AppendOwnNone
namespace Go.Proofs.Ytohoobgbmhondaa.By
open Go Go.RowKit Go.ChangeShapes Go.WideShapes

theorem below_new (w : World) (o : Obj) : Below w.heap.size w (w.alloc o) := (Below.refl _ _).alloc (Nat.le_refl _) _
theorem below_self {a w w' : World} (h : Below a.heap.size a w) (hb : Below w.heap.size w w') : Below a.heap.size a w' := h.trans (hb.mono h.size)
theorem below_drew (w : World) : Below w.heap.size w w.drew := ⟨rfl, rfl, rfl, Nat.le_refl _, fun _ _ => rfl⟩
theorem below_drewN (w : World) (n : Nat) : Below w.heap.size w (w.drewN n) := ⟨rfl, rfl, rfl, Nat.le_refl _, fun _ _ => rfl⟩
theorem size_new {w : World} {n : Nat} (hn : w.heap.size = n) (o : Obj) : (w.alloc o).heap.size = n + 1 := by subst hn; simp
theorem new_cell {w : World} {n : Nat} (hn : w.heap.size = n) (cs : Array Value) (ty : TypeId) (j : Nat) {v : Value} (h : cs[j]? = some v) : (w.alloc (.cells cs ty)).cell? ⟨n, j, none⟩ = some v := by subst hn; simp [h]
theorem new_frozen {w : World} {n : Nat} (hn : w.heap.size = n) (cs : Array Value) (ty : TypeId) (j : Nat) : (w.alloc (.cells cs ty)).frozen? ⟨n, j, none⟩ = false := by subst hn; simp
theorem old_cell {n : Nat} {w w' : World} {b o : Nat} {v : Value} (hb : Below n w w') (h : w.cell? ⟨b, o, none⟩ = some v) (hlt : b < n) : w'.cell? ⟨b, o, none⟩ = some v := (hb.cell hlt).trans h
theorem keep_cell {w w' : World} {b o : Nat} {v : Value} (hb : Below w.heap.size w w') (h : w.cell? ⟨b, o, none⟩ = some v) : w'.cell? ⟨b, o, none⟩ = some v := old_cell hb h (World.block_lt_of_cell? _ _ h)
theorem ret_nat {a b : Nat} (h : a = b) : Ending.returned (.int .i64 (a : Int)) = .returned (.int .i64 (b : Int)) := by rw [h]
theorem ret_int {k : IntKind} {a b : Int} (h : a = b) : Ending.returned (.int k a) = .returned (.int k b) := by rw [h]
theorem ret_bool {a b : Bool} (h : a = b) : Ending.returned (.bool a) = .returned (.bool b) := by rw [h]

/-- the bytes that lie from this address on, in blocks below n0 -/
def BytAt (w : World) (n0 : Nat) (A : Option Addr) (l : List UInt8) : Prop := l = [] ∨ ∃ g off, A = some ⟨g, off, none⟩ ∧ g < n0 ∧ ∀ j (h : j < l.length), w.cell? ⟨g, off + j, none⟩ = some (.int .u8 (l[j].toNat : Int))
theorem BytAt.keep {w w' : World} {n0 : Nat} {A : Option Addr} {l : List UInt8} (h : BytAt w n0 A l) (hc : ∀ b o x, b < n0 → w.cell? ⟨b, o, none⟩ = some x → w'.cell? ⟨b, o, none⟩ = some x) : BytAt w' n0 A l := by
  rcases h with h | ⟨g, off, h1, h2, h3⟩
  · exact .inl h
  · exact .inr ⟨g, off, h1, h2, fun j hj => hc _ _ _ h2 (h3 j hj)⟩
theorem BytAt.mono {w : World} {n0 n1 : Nat} {A : Option Addr} {l : List UInt8} (h : BytAt w n0 A l) (hn : n0 ≤ n1) : BytAt w n1 A l := by
  rcases h with h | ⟨g, off, h1, h2, h3⟩
  · exact .inl h
  · exact .inr ⟨g, off, h1, by omega, h3⟩
theorem BytAt.below {w w' : World} {A : Option Addr} {l : List UInt8} (h : BytAt w w.heap.size A l) (hb : Below w.heap.size w w') : BytAt w' w'.heap.size A l :=
  (h.keep fun b o x hlt hx => (hb.cell (p := ⟨b, o, none⟩) hlt).trans hx).mono hb.size
theorem BytAt.pos {w : World} {n0 : Nat} {A : Option Addr} {l : List UInt8} (h : BytAt w n0 A l) (hl : 0 < l.length) : ∃ g off, A = some ⟨g, off, none⟩ ∧ g < n0 ∧ ∀ j (h : j < l.length), w.cell? ⟨g, off + j, none⟩ = some (.int .u8 (l[j].toNat : Int)) := by
  rcases h with rfl | h
  · simp at hl
  · exact h
/-- a slice of bytes that came in -/
def BytesIn (w : World) (v : Value) (l : List UInt8) : Prop := ∃ (A : Option Addr) (c : Nat), v = .slice A l.length c ∧ l.length ≤ c ∧ c ≤ 140737488355328 ∧ (A = none → c = 0) ∧ BytAt w w.heap.size A l

theorem BytesIn.below {w w' : World} {v : Value} {l : List UInt8} (h : BytesIn w v l) (hb : Below w.heap.size w w') : BytesIn w' v l := by
  obtain ⟨A, c, h1, h2, h3, h4, h5⟩ := h
  exact ⟨A, c, h1, h2, h3, h4, h5.below hb⟩
/-- an argument that is a slice of bytes; what it takes of memory is paid by the form's reach -/
theorem open_bytes {H : Type} {enc : TypeId × Value → H} {W : World} {b0 : Nat} {sp : Nat → Bool} {held : Bool} {r : Reach} {v : Value} {d : DataW H} {p : List MemPlace} (hv : Value.okWide Try.prog W r b0 24 v) (h : DataW.Trod enc Try.prog W 0 sp held 24 v d p) :
    ∃ l, l.length ≤ 9223372036854775807 ∧ (∃ (A : Option Addr) (c : Nat), v = .slice A l.length c ∧ l.length ≤ c ∧ c ≤ 9223372036854775807 ∧ (A = none → c = 0) ∧ BytAt W W.heap.size A l) ∧ (d = .nil ∧ l = [] ∨ ∃ els spare, d = .slice els spare ∧ els.length = l.length) := by
  obtain ⟨A, n, c, rfl⟩ := okWide_slice Try.underlying24 hv
  obtain ⟨fuel, hf⟩ := h
  rcases open_ints Try.underlying24 Try.underlying5 (by kernel_rfl) hf with ⟨hcs, hx⟩ | ⟨a, len, cap, zs, hcs, _, hl, hm, hz, hx, hcell, hwf⟩
  · simp [Value.cells] at hcs
    obtain ⟨rfl, rfl, rfl⟩ := hcs
    injection hx with hx _
    exact ⟨[], by simp, ⟨none, 0, rfl, by simp, by omega, fun _ => rfl, .inl rfl⟩, .inl ⟨hx, rfl⟩⟩
  · simp [Value.cells] at hcs
    obtain ⟨rfl, rfl, rfl⟩ := hcs
    have hzl : n ≤ zs.length := by rw [hz]; split <;> omega
    have hlen : ((zs.take n).map fun z => UInt8.ofNat z.toNat).length = n := by rw [List.length_map, List.length_take]; omega
    have hm' : c ≤ 9223372036854775807 := by unfold maxLen at hm; omega
    refine ⟨(zs.take n).map fun z => UInt8.ofNat z.toNat, by omega, ⟨some a, c, by rw [hlen], by omega, hm', fun h => by (cases h), ?_⟩, .inr ⟨lits .u8 (zs.take n), lits .u8 (zs.drop n), congrArg Prod.fst hx, ?_⟩⟩
    · rcases Nat.eq_zero_or_pos n with h0 | h0
      · exact .inl (List.eq_nil_of_length_eq_zero (by omega))
      · obtain ⟨b, off, rfl, hc⟩ := ints_at hcell (by omega)
        refine .inr ⟨b, off, rfl, World.block_lt_of_cell? _ _ (hc 0 (by omega)), fun j hj => ?_⟩
        rw [hlen] at hj
        rw [hc j (by omega)]
        have hw := hwf (zs[j]'(by omega)) (List.getElem_mem _)
        unfold Lit.wf at hw
        simp [IntKind.min, IntKind.max, IntKind.bits, IntKind.signed] at hw
        have e : zs.getD j 0 = zs[j]'(by omega) := by rw [List.getD, List.getElem?_eq_getElem (by omega)]; rfl
        rw [e, List.getElem_map, List.getElem_take]
        congr 2
        rw [UInt8.toNat_ofNat']
        omega
    · rw [hlen]; unfold lits; rw [List.length_map, List.length_take]; omega
end Go.Proofs.Ytohoobgbmhondaa.By
