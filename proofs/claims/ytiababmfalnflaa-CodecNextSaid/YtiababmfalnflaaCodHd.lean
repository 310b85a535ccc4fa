/- Valid and Head of the reference. -/
import Derived.Test.YtiababmfalnflaaCodDep
import Derived.Test.YtiababmfalnflaaCodLaw
import Derived.Laws.AppendOwnNone
namespace Go.Proofs.Ytiababmfalnflaa.Cod
open Go Go.RowKit

/-- the reference's Valid -/
theorem rvalid_any {t : T} {v : Value} {F : Nat → Prop} {w : World} (h : Lies w F t v) (hm : szT t ≤ 1000000) :
    Calls Try.prog 16 #[v] w fun e w' => e = .returned (.bool (valT 64 t)) ∧ Below w.heap.size w w' := by
  obtain ⟨k, i, s, l⟩ := t
  obtain ⟨sb, A, c, rfl, hs, hk, hi, hs2, hl, hA⟩ := h.node
  obtain ⟨t0, ht0⟩ : ∃ t0, T.node k i s l = t0 := ⟨_, rfl⟩
  rw [ht0] at h hm ⊢
  obtain ⟨N, hN⟩ : ∃ N, w.heap.size = N := ⟨_, rfl⟩
  obtain ⟨W1, hW1⟩ : ∃ W1, W1 = w.alloc (.cells #[.int .i64 k, .int .i64 i, .string sb, .slice A l.length c] 24) := ⟨_, rfl⟩
  have HW1 := Lib.hid hW1
  have hs1 : W1.heap.size = N + 1 := by rw [hW1]; exact size_new hN _
  have hB1 : Below w.heap.size w W1 := by rw [hW1]; exact below_new _ _
  have hc0 : W1.cell? ⟨N, 0, none⟩ = some (.int .i64 k) := by rw [hW1]; exact new_cell hN _ _ 0 rfl
  have hc1 : W1.cell? ⟨N, 1, none⟩ = some (.int .i64 i) := by rw [hW1]; exact new_cell hN _ _ 1 rfl
  have hc2 : W1.cell? ⟨N, 2, none⟩ = some (.string sb) := by rw [hW1]; exact new_cell hN _ _ 2 rfl
  have hc3 : W1.cell? ⟨N, 3, none⟩ = some (.slice A l.length c) := by rw [hW1]; exact new_cell hN _ _ 3 rfl
  have hL1 := h.below hB1
  have HP : Hid (Calls Try.prog 32 #[.agg #[.int .i64 k, .int .i64 i, .string sb, .slice A l.length c]] W1 fun e w' => e = .returned (.bool (propT t0)) ∧ Below W1.heap.size W1 w') := Lib.hid (proper_any hL1)
  have HD : Hid (∀ W, Below W1.heap.size W1 W → Calls Try.prog 18 #[.agg #[.int .i64 k, .int .i64 i, .string sb, .slice A l.length c]] W fun e w' => e = .returned (.int .i64 ((depT t0 : Nat) : Int)) ∧ Below W.heap.size W w') := Lib.hid fun W hb => rdepth_any (hL1.below hb) hm
  have hd : depT t0 ≤ 1000000 := by have := dep_sz t0; omega
  have HB := Lib.hid hB1
  have HN := Lib.hid hN
  have hv := val_eq 64 t0
  clear hs hA h hL1 hW1 hB1 ht0
  cases hp : propT t0 with
  | false =>
    have HR : Hid (valT 64 t0 = false) := Lib.hid (by rw [hv, hp]; rfl)
    rw [hp] at HP
    clear hv hp
    go_enter Try.func16, Try.ntmps16
    go_wp2_with (first | (go_at_call 32; rw [← HW1.out]; refine HP.out.mono ?_; rintro e w2 ⟨rfl, hb2⟩) | fail)
    go_ret
    exact ⟨ret_bool HR.out.symm, by first | exact below_self HB.out hb2 | (rw [HN.out]; exact HN.out ▸ below_self HB.out hb2)⟩
  | true =>
    have HR : Hid (valT 64 t0 = decide (((depT t0 : Nat) : Int) ≤ 64)) := Lib.hid (by rw [hv, hp, Bool.true_and, decide_eq_decide]; omega)
    rw [hp] at HP
    clear hv hp
    generalize depT t0 = dd at *
    go_enter Try.func16, Try.ntmps16
    go_wp2_with (first
      | (go_at_call 32; rw [← HW1.out]; refine HP.out.mono ?_; rintro e w2 ⟨rfl, hb2⟩
         have e0 := old_cell hb2 hc0 (by omega)
         have e1 := old_cell hb2 hc1 (by omega)
         have e2 := old_cell hb2 hc2 (by omega)
         have e3 := old_cell hb2 hc3 (by omega))
      | (go_at_call 18; refine (HD.out _ (by assumption)).mono ?_; rintro e w3 ⟨rfl, hb3⟩)
      | fail)
    go_ret
    have hb4 := below_self (below_self HB.out hb2) hb3
    exact ⟨ret_bool HR.out.symm, by first | exact hb4 | (rw [HN.out]; exact HN.out ▸ hb4)⟩

theorem be_cons (j n : Nat) : be (j + 1) n = UInt8.ofNat (n / 256 ^ j % 256) :: be j n := by
  induction j generalizing n with
  | zero => simp [be]
  | succ j ih =>
    rw [be, ih (n / 256), Nat.div_div_eq_div_mul]
    conv => rhs; rw [be]
    rw [Nat.pow_succ, Nat.mul_comm 256]; rfl
theorem one_owned (w : World) (base : Nat) (x : Value) (hb : base ≤ w.heap.size) : (w.alloc (.cells #[x] 5)).ownsRow base 5 1 (.slice (some ⟨w.heap.size, 0, none⟩) 1 1) 1 [x] :=
  ⟨rfl, .inr ⟨w.heap.size, 1, #[x], rfl, hb, heap_alloc_new w _, Nat.le_refl _, by unfold maxLen; omega, rfl, rfl⟩⟩
theorem Byt.src {w : World} {base : Nat} {a : Addr} {n c : Nat} {l : List UInt8} (h : Byt w base (.slice (some a) n c) l) : ∀ j u, (cellsL l)[j]? = some u → w.cell? (a.add j) = some u := by
  obtain ⟨g, rfl, _, _, _, hc⟩ := h.cells
  intro j u hu
  unfold cellsL at hu
  rw [List.getElem?_map] at hu
  rcases Nat.lt_or_ge j l.length with hj | hj
  · rw [List.getElem?_eq_getElem hj] at hu
    rw [Go.WideShapes.add_plain, Nat.zero_add, hc j hj]
    exact hu
  · rw [List.getElem?_eq_none hj] at hu; cases hu
theorem Byt.none_nil {w : World} {base n c : Nat} {l : List UInt8} (h : Byt w base (.slice none n c) l) : l = [] ∧ n = 0 ∧ c = 0 := by
  rcases h.2 with ⟨e1, e2⟩ | ⟨g, cap, cur, e1, _⟩
  · injection e1 with _ e3 e4
    exact ⟨List.eq_nil_of_length_eq_zero e2, e3, e4⟩
  · cases e1
theorem oneL (l : List UInt8) : ∀ u ∈ cellsL l, u.oneCell' = true := by
  intro u hu
  unfold cellsL at hu
  obtain ⟨x, _, rfl⟩ := List.mem_map.1 hu
  rfl
theorem lenL (l : List UInt8) : (cellsL l).length = l.length * 1 := by simp [cellsL]
theorem byt_cons {w : World} {base : Nat} {v : Value} {c : UInt8} {l : List UInt8} {x : Int} (hx : x = (c.toNat : Int)) (h : w.ownsRow base 5 1 v (1 + l.length) ([.int .u8 x] ++ cellsL l)) : Byt w base v (c :: l) := by
  subst hx
  unfold Byt cellsL at *
  rw [List.map_cons, List.length_cons, Nat.add_comm]
  exact h
theorem byt_cons0 {w : World} {base : Nat} {v : Value} {c : UInt8} {x : Int} (hx : x = (c.toNat : Int)) (h : w.ownsRow base 5 1 v 1 [.int .u8 x]) : Byt w base v [c] := by
  subst hx
  exact h
end Go.Proofs.Ytiababmfalnflaa.Cod
