/- A slice of numbers of 64 bits that came in. -/
import Derived.Test.YtohoobgbmhondaaDigJoin
namespace Go.Proofs.Ytohoobgbmhondaa.By
open Go Go.RowKit Go.ChangeShapes Go.WideShapes

theorem open_nums {H : Type} {enc : TypeId × Value → H} {W : World} {b0 : Nat} {sp : Nat → Bool} {held : Bool} {r : Reach} {v : Value} {d : DataW H} {p : List MemPlace} (hv : Value.okWide Try.prog W r b0 44 v) (h : DataW.Trod enc Try.prog W 0 sp held 44 v d p) :
    ∃ l : List Int, (∀ x ∈ l, U64 x) ∧ (∃ (A : Option Addr) (c : Nat), v = .slice A l.length c ∧ NumAt W W.heap.size A l) ∧ (d = .nil ∧ l = [] ∨ ∃ els spare, d = .slice els spare ∧ els.length = l.length) := by
  obtain ⟨A, n, c, rfl⟩ := okWide_slice Try.underlying44 hv
  obtain ⟨fuel, hf⟩ := h
  rcases open_ints Try.underlying44 Try.underlying39 (by kernel_rfl) hf with ⟨hcs, hx⟩ | ⟨a, len, cap, zs, hcs, _, hl, hm, hz, hx, hcell, hwf⟩
  · simp [Value.cells] at hcs
    obtain ⟨rfl, rfl, rfl⟩ := hcs
    injection hx with hx _
    exact ⟨[], by simp, ⟨none, 0, rfl, .inl rfl⟩, .inl ⟨hx, rfl⟩⟩
  · simp [Value.cells] at hcs
    obtain ⟨rfl, rfl, rfl⟩ := hcs
    have hzl : n ≤ zs.length := by rw [hz]; split <;> omega
    have hlen : (zs.take n).length = n := by rw [List.length_take]; omega
    refine ⟨zs.take n, fun x hx => u64_bds (hwf x (List.mem_of_mem_take hx)), ⟨some a, c, by rw [hlen], ?_⟩, .inr ⟨lits .u64 (zs.take n), lits .u64 (zs.drop n), congrArg Prod.fst hx, by unfold lits; rw [List.length_map]⟩⟩
    rcases Nat.eq_zero_or_pos n with h0 | h0
    · exact .inl (List.eq_nil_of_length_eq_zero (by omega))
    · obtain ⟨b, off, rfl, hc⟩ := ints_at hcell (by omega)
      refine .inr ⟨b, off, rfl, World.block_lt_of_cell? _ _ (hc 0 (by omega)), fun j hj => ?_⟩
      rw [hlen] at hj
      rw [hc j (by omega), List.getElem_take]
      congr 2
      rw [List.getD, List.getElem?_eq_getElem (by omega)]; rfl
end Go.Proofs.Ytohoobgbmhondaa.By
