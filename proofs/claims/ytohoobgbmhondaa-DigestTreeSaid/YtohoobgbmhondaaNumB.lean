/- Slices of 64-bit numbers that the call made itself. -/
import Derived.Test.YtohoobgbmhondaaDigRJoin
import Derived.Test.YtohoobgbmhondaaNums
namespace Go.Proofs.Ytohoobgbmhondaa.By
open Go Go.RowKit

def NumB (w : World) (base : Nat) (v : Value) (xs : List Int) : Prop := w.ownsRow base 39 1 v xs.length (xs.map (Value.int .u64))
theorem info_u64 : (Try.prog.info? 39).map (fun i => (i.zero, i.size, i.bytes)) = some (some (.int .u64 0), 1, 8) := by kernel_rfl
theorem NumB.keep {w w' : World} {base : Nat} {v : Value} {l : List Int} (h : NumB w base v l) (hb : ∀ k, v.ownBlock = some k → w'.heap[k]? = w.heap[k]?) : NumB w' base v l := by
  refine ⟨h.1, ?_⟩
  rcases h.2 with hn | ⟨g, cap, cur, rfl, hbg, hgg, rest⟩
  · exact .inl hn
  · exact .inr ⟨g, cap, cur, rfl, hbg, (hb g rfl).trans hgg, rest⟩
theorem NumB.lt {w : World} {base : Nat} {v : Value} {l : List Int} (h : NumB w base v l) {k : Nat} (hk : v.ownBlock = some k) : base ≤ k ∧ k < w.heap.size := World.ownsRow.lt h k hk
theorem NumB.below {w w' : World} {base : Nat} {v : Value} {l : List Int} (h : NumB w base v l) (hb : Below w.heap.size w w') : NumB w' base v l := h.keep fun k hk => hb.block k (h.lt hk).2
theorem NumB.at_ {w : World} {base : Nat} {A : Option Addr} {n c : Nat} {l : List Int} (h : NumB w base (.slice A n c) l) : n = l.length ∧ NumAt w w.heap.size A l := by
  rcases h.2 with ⟨e1, e2⟩ | ⟨g, cap, cur, e1, hbg, hgg, _⟩
  · injection e1 with e3 e4 e5
    exact ⟨by omega, .inl (List.eq_nil_of_length_eq_zero e2)⟩
  · injection e1 with e1 e2 e3
    subst e1
    refine ⟨e2, .inr ⟨g, 0, rfl, (Array.getElem?_eq_some_iff.1 hgg).1, fun j hj => ?_⟩⟩
    have := World.ownsRow.cells h (g := g) rfl j (.int .u64 l[j]) (by simp [List.getElem?_eq_getElem hj])
    rw [Nat.zero_add]
    rcases j with _ | j <;> simpa [Addr.add] using this
theorem NumB.put {w : World} {base g cap n : Nat} {l : List Int} (hn : n = l.length) (h : NumB w base (.slice (some ⟨g, 0, none⟩) n cap) l) (j : Nat) (x : Int) :
    NumB (w.setCell ⟨g, j, none⟩ (.int .u64 x)) base (.slice (some ⟨g, 0, none⟩) n cap) (l.set j x) ∧ w.grownBy (w.setCell ⟨g, j, none⟩ (.int .u64 x)) (some g) := by
  subst hn
  have := World.ownsRow.stored h j (.int .u64 x)
  refine ⟨?_, this.2⟩
  unfold NumB at *
  rw [List.length_set, List.map_set]
  exact this.1
theorem NumB.frz {w : World} {base g cap n : Nat} {l : List Int} (hn : n = l.length) (h : NumB w base (.slice (some ⟨g, 0, none⟩) n cap) l) (j : Nat) : w.frozen? ⟨g, j, none⟩ = false := by
  subst hn
  exact World.ownsRow.frozenAt h j
theorem NumB.low {w : World} {base : Nat} {v : Value} {l : List Int} (h : NumB w base v l) : ∀ k, v.ownBlock = some k → base ≤ k := fun k hk => (h.lt hk).1
theorem NumB.nil (w : World) (base : Nat) : NumB w base (.slice none 0 0) [] := World.ownsRow_nil _ _ _ _
theorem NumB.mono {w : World} {base base' : Nat} {v : Value} {l : List Int} (h : NumB w base v l) (hb : base' ≤ base) : NumB w base' v l := by
  refine ⟨h.1, ?_⟩
  rcases h.2 with hn | ⟨g, cap, cur, rfl, hbg, hgg, rest⟩
  · exact .inl hn
  · exact .inr ⟨g, cap, cur, rfl, Nat.le_trans hb hbg, hgg, rest⟩
theorem NumB.form {w : World} {base : Nat} {v : Value} {l : List Int} (h : NumB w base v l) : ∃ A c, v = .slice A l.length c := by
  rcases h.2 with ⟨e1, e2⟩ | ⟨g, cap, cur, e1, _⟩
  · exact ⟨none, 0, by rw [e1, e2]⟩
  · exact ⟨_, _, e1⟩
theorem numb_snoc {w' : World} {base : Nat} {v' : Value} {l : List Int} {x : Int} (h : w'.ownsRow base 39 1 v' (l.length + 1) (l.map (Value.int .u64) ++ [.int .u64 x])) : NumB w' base v' (l ++ [x]) := by
  unfold NumB
  rw [List.map_append, List.length_append]
  exact h
/-- make([]uint64, n) -/
theorem wpList_make_nums {w : World} {ops : Array Oper} {rest : List Oper} {o : Oper} {a : Act} {Q : Exit → Act → World → Prop} (hgd : Region.wanted o (yielded ops a.tmps) = true) (s x : Operand)
    (ho : o.op = Op.makeSlice 44 s x) (base n : Nat) (hs : a.eval s = .int .i64 (n : Int)) (hx : a.eval x = .int .i64 (n : Int)) (hn : 8 * n ≤ 281474976710656) (hbase : base ≤ w.heap.size)
    (h : ∀ w', NumB w' base (.slice (some ⟨w.heap.size, 0, none⟩) n n) (List.replicate n 0) → w.grownBy w' none → wpList Try.prog ops Q rest (a.put o.dst (.slice (some ⟨w.heap.size, 0, none⟩) n n)) w') : wpList Try.prog ops Q (o :: rest) a w := by
  obtain ⟨i0, hi, hz0, hz1, hz2⟩ := info_parts info_u64
  refine wpList_step fun K hK => ?_
  rw [if_pos hgd]
  obtain ⟨w', hr, h2, h3⟩ := run_make_full (P := Try.prog) w base 44 39 i0 (.int .u64 0) 1 Try.underlying44 hi hz0 hz1 .i64 .i64 n (by rw [hz2]; exact hn) (by unfold maxLen; omega) hbase
  unfold Oper.wp
  simp [execOp, ho, hs, hx, hr, Result.andThen]
  refine hK _ _ (h w' ?_ h3)
  unfold NumB
  rw [List.length_replicate, List.map_replicate]
  have e : (madeCells (Value.int .u64 0).cells (n * 1)).toList = List.replicate n (Value.int .u64 0) := by
    rw [Nat.mul_one]; exact toList_madeCells_one _ _
  rw [e] at h2
  exact h2
end Go.Proofs.Ytohoobgbmhondaa.By
