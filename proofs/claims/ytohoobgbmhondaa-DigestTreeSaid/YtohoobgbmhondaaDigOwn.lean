/- A copy of a byte string that came in, and a byte of it stored. -/
import Derived.Test.YtohoobgbmhondaaDigUpd
import Derived.Laws.OwnMore
import Derived.SizedLaws
namespace Go.Proofs.Ytohoobgbmhondaa.By
open Go Go.RowKit

theorem zero_owned {w : World} {M base : Nat} (hM : w.heap.size = M) (hb : base ≤ M) : (w.alloc (.cells #[] 5)).ownsRow base 5 1 (.slice (some ⟨M, 0, none⟩) 0 0) 0 [] := by
  subst hM
  exact ⟨rfl, .inr ⟨w.heap.size, 0, #[], rfl, hb, heap_alloc_new w _, Nat.le_refl _, by unfold maxLen; omega, rfl, rfl⟩⟩
theorem byt_of {w : World} {base n : Nat} {v : Value} {l : List UInt8} (hn : l.length = n) (h : w.ownsRow base 5 1 v n (cellsL l)) : Byt w base v l := by
  subst hn
  exact h
theorem bytes_let {w : World} {A : Option Addr} {n c : Nat} {l : List UInt8} {V : Int} (hn : n = l.length) (hB : BytAt w w.heap.size A l) (hl : l.length ≤ 9223372036854775807) (hV : updI startI l = V) :
    Calls Try.prog 17 #[.slice A n c] w fun e w' => e = .returned (.int .u64 V) ∧ w' = w := by
  subst hV
  exact bytes_any hn hB hl
theorem BytAt.src {w : World} {n0 : Nat} {a : Addr} {l : List UInt8} (h : BytAt w n0 (some a) l) : ∀ j u, (cellsL l)[j]? = some u → w.cell? (a.add j) = some u := by
  intro j u hu
  unfold cellsL at hu
  rw [List.getElem?_map] at hu
  rcases Nat.lt_or_ge j l.length with hj | hj
  · obtain ⟨g, off, h1, _, hc⟩ := h.pos (by omega)
    injection h1 with h1
    subst h1
    rw [List.getElem?_eq_getElem hj] at hu
    rw [Go.WideShapes.add_plain, hc j hj]
    exact hu
  · rw [List.getElem?_eq_none hj] at hu; cases hu
theorem Byt.put {w : World} {base g cap : Nat} {l : List UInt8} (h : Byt w base (.slice (some ⟨g, 0, none⟩) l.length cap) l) (j : Nat) (x : UInt8) :
    Byt (w.setCell ⟨g, j, none⟩ (.int .u8 (x.toNat : Int))) base (.slice (some ⟨g, 0, none⟩) l.length cap) (l.set j x) ∧ w.grownBy (w.setCell ⟨g, j, none⟩ (.int .u8 (x.toNat : Int))) (some g) := by
  have := World.ownsRow.stored h j (.int .u8 (x.toNat : Int))
  refine ⟨?_, this.2⟩
  unfold Byt cellsL at *
  rw [List.length_set, List.map_set]
  exact this.1
theorem Byt.frz {w : World} {base g cap n : Nat} {l : List UInt8} (h : Byt w base (.slice (some ⟨g, 0, none⟩) n cap) l) (j : Nat) : w.frozen? ⟨g, j, none⟩ = false := by
  have e : n = l.length := by obtain ⟨_, _, _, _, e, _⟩ := h.cells; exact e
  subst e
  exact World.ownsRow.frozenAt h j
/-- what a slice of bytes takes of memory -/
theorem bytes_reach {H : Type} {ts : List TypeId} {ds : List (DataW H)} (h : (DataW.weightsEach Try.prog ts ds).all (· ≤ reachBytes) = true) {j : Nat} {d : DataW H} {l : List UInt8} (ht : ts[j]? = some 24) (hd : ds[j]? = some d)
    (hl : d = .nil ∧ l = [] ∨ ∃ els spare, d = .slice els spare ∧ els.length = l.length) : l.length ≤ 140737488351232 := by
  rcases hl with ⟨_, rfl⟩ | ⟨els, spare, rfl, hl⟩
  · simp
  · have := sized_slice h ht hd Try.underlying24
    have hb : Try.prog.bytesOf 5 = 1 := by kernel_rfl
    rw [hb] at this
    unfold reachBytes at this
    omega
theorem u8_bds {n : Int} (h : (Lit.int .u8 n).wf = true) : 0 ≤ n ∧ n < 256 := by
  unfold Lit.wf at h; simp [IntKind.min, IntKind.max, IntKind.bits, IntKind.signed] at h; omega
theorem u64_bds {n : Int} (h : (Lit.int .u64 n).wf = true) : U64 n := by
  unfold Lit.wf at h; simp [IntKind.min, IntKind.max, IntKind.bits, IntKind.signed] at h; unfold U64; omega
end Go.Proofs.Ytohoobgbmhondaa.By
