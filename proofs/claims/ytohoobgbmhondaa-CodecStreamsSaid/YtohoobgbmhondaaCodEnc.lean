/- Encode of package codec; the example that every statement of layer 3 checks first. -/
import Derived.Test.YtohoobgbmhondaaCodPut
import Derived.Test.YtohoobgbmhondaaCodVal
import Derived.Lib.BufferRead
namespace Go.Proofs.Ytohoobgbmhondaa.Cod
open Go Go.RowKit

mutual
theorem Lies.bounded {w : World} {F : Nat → Prop} : (t : T) → (v : Value) → Lies w F t v → Lies w (fun b => b < w.heap.size) t v
  | .node k i s l, v, h => by
    simp only [Lies] at h ⊢
    obtain ⟨sb, sl, rfl, h1, h2, h3, h4, h5, h6⟩ := h
    refine ⟨sb, sl, rfl, h1, h2, h3, h4, h5, ?_⟩
    rcases h6 with h6 | ⟨b, off, c, hne, h6, h7, h8⟩
    · exact .inl h6
    · refine .inr ⟨b, off, c, hne, h6, ?_, LiesL.bounded l off h8⟩
      match l, hne, h8 with
      | t :: r, _, h8 =>
        simp only [LiesL] at h8
        obtain ⟨⟨v0, _, _, _, c0, _⟩, _⟩ := h8
        exact World.block_lt_of_cell? _ _ c0
theorem LiesL.bounded {w : World} {F : Nat → Prop} {b : Nat} : (l : List T) → (off : Nat) → LiesL w F b l off → LiesL w (fun b => b < w.heap.size) b l off
  | [], _, _ => by simp only [LiesL]
  | t :: r, off, h => by
    simp only [LiesL] at h ⊢
    obtain ⟨⟨v0, v1, v2, v3, c0, c1, c2, c3, ht⟩, hr⟩ := h
    exact ⟨⟨v0, v1, v2, v3, c0, c1, c2, c3, Lies.bounded t _ ht⟩, LiesL.bounded r _ hr⟩
end
theorem Grew.nil {w w' : World} {v' : Value} (h : Grew w w' (.slice none 0 0) v') : Below w.heap.size w w' :=
  ⟨h.by_.os, h.by_.tape, h.by_.output, h.by_.size, fun k hk => h.by_.block k hk (by simp [Value.ownBlock])⟩
theorem Byt.nil (w : World) (base : Nat) : Byt w base (.slice none 0 0) [] := World.ownsRow_nil _ _ _ _
theorem Byt.mono {w : World} {base base' : Nat} {v : Value} {l : List UInt8} (h : Byt w base v l) (hb : base' ≤ base) : Byt w base' v l := by
  refine ⟨h.1, ?_⟩
  rcases h.2 with hn | ⟨g, cap, cur, rfl, hbg, hgg, rest⟩
  · exact .inl hn
  · exact .inr ⟨g, cap, cur, rfl, Nat.le_trans hb hbg, hgg, rest⟩
/-- the bytes, cell by cell -/
theorem Byt.cells {w : World} {base : Nat} {a : Addr} {n c : Nat} {l : List UInt8} (h : Byt w base (.slice (some a) n c) l) : ∃ g, a = ⟨g, 0, none⟩ ∧ base ≤ g ∧ g < w.heap.size ∧ n = l.length ∧ ∀ j (hj : j < l.length), w.cell? ⟨g, j, none⟩ = some (.int .u8 (l[j].toNat : Int)) := by
  rcases h.2 with ⟨e1, _⟩ | ⟨g, cap, cur, e1, hbg, hgg, _⟩
  · cases e1
  · injection e1 with e1 e2 e3
    injection e1 with e1
    subst e1
    refine ⟨g, rfl, hbg, (Array.getElem?_eq_some_iff.1 hgg).1, e2, fun j hj => ?_⟩
    have := World.ownsRow.cells h (g := g) rfl j (.int .u8 (l[j].toNat : Int)) (by simp [cellsL, List.getElem?_eq_getElem hj])
    rcases j with _ | j <;> simpa [Addr.add] using this
/-- what Encode answers -/
def EncodeR (w : World) (t : T) (e : Ending) (w' : World) : Prop :=
  Below w.heap.size w w' ∧ ((valT 64 t = false ∧ e = .returned (.tuple #[.slice none 0 0, .int .i64 1])) ∨ (valT 64 t = true ∧ 1048576 < (enc t).length ∧ e = .returned (.tuple #[.slice none 0 0, .int .i64 6])) ∨
    (valT 64 t = true ∧ (enc t).length ≤ 1048576 ∧ ∃ A c, e = .returned (.tuple #[.slice A (enc t).length c, .int .i64 0]) ∧ Byt w' w.heap.size (.slice A (enc t).length c) (enc t)))
theorem encode_any {t : T} {v : Value} {F : Nat → Prop} {w : World} (h : Lies w F t v) (hsh : shT t = true) : Calls Try.prog 12 #[v] w (EncodeR w t) := by
  obtain ⟨k, i, s, l⟩ := t
  obtain ⟨sb, A, c, rfl, hs, hk, hi, hs2, hl, hA⟩ := h.node
  obtain ⟨t0, ht0⟩ : ∃ t0, T.node k i s l = t0 := ⟨_, rfl⟩
  rw [ht0] at h hsh ⊢
  obtain ⟨N, hN⟩ : ∃ N, w.heap.size = N := ⟨_, rfl⟩
  obtain ⟨W1, hW1⟩ : ∃ W1, W1 = w.alloc (.cells #[.int .i64 k, .int .i64 i, .string sb, .slice A l.length c] 33) := ⟨_, rfl⟩
  have HW1 := Lib.hid hW1
  have hs1 : W1.heap.size = N + 1 := by rw [hW1]; exact size_new hN _
  have hB1 : Below w.heap.size w W1 := by rw [hW1]; exact below_new _ _
  have hc0 : W1.cell? ⟨N, 0, none⟩ = some (.int .i64 k) := by rw [hW1]; exact new_cell hN _ _ 0 rfl
  have hc1 : W1.cell? ⟨N, 1, none⟩ = some (.int .i64 i) := by rw [hW1]; exact new_cell hN _ _ 1 rfl
  have hc2 : W1.cell? ⟨N, 2, none⟩ = some (.string sb) := by rw [hW1]; exact new_cell hN _ _ 2 rfl
  have hc3 : W1.cell? ⟨N, 3, none⟩ = some (.slice A l.length c) := by rw [hW1]; exact new_cell hN _ _ 3 rfl
  have hL1 := h.below hB1
  have HV : Hid (Calls Try.prog 28 #[.agg #[.int .i64 k, .int .i64 i, .string sb, .slice A l.length c]] W1 fun e w' => e = .returned (.bool (valT 64 t0)) ∧ Below W1.heap.size W1 w') := Lib.hid (valid_any hL1)
  have HL := Lib.hid hL1
  have HSH := Lib.hid hsh
  have HB := Lib.hid hB1
  have HN := Lib.hid hN
  clear hs hA h hL1 hsh hW1 hB1 ht0
  cases hv : valT 64 t0 with
  | false =>
    have HR : Hid (∀ w', Below w.heap.size w w' → EncodeR w t0 (.returned (.tuple #[.slice none 0 0, .int .i64 1])) w') := Lib.hid fun w' hb => ⟨hb, .inl ⟨hv, rfl⟩⟩
    rw [hv] at HV
    clear hv hN
    go_enter Try.func12, Try.ntmps12
    go_wp2_with (first | (go_at_call 28; rw [← HW1.out]; refine HV.out.mono ?_; rintro e w2 ⟨rfl, hb2⟩) | fail)
    go_ret2
    exact HR.out _ (below_self HB.out hb2)
  | true =>
    have HV1 := Lib.hid hv
    have hpd := (val_iff 64 t0).1 hv
    have HP := Lib.hid hpd.1
    rw [hv] at HV
    clear hv hpd
    by_cases hle : (enc t0).length ≤ 1048576
    · go_enter Try.func12, Try.ntmps12
      go_wp2_with (first
        | (go_at_call 28; rw [← HW1.out]; refine HV.out.mono ?_; rintro e w2 ⟨rfl, hb2⟩
           have e0 := old_cell hb2 hc0 (by omega)
           have e1 := old_cell hb2 hc1 (by omega)
           have e2 := old_cell hb2 hc2 (by omega)
           have e3 := old_cell hb2 hc3 (by omega))
        | (go_at_call 29; refine (put_n _ t0 _ _ _ w2.heap.size [] w2 (Nat.le_refl _) HP.out HSH.out (Lies.bounded _ _ (HL.out.below hb2)) (fun _ h => h) (Nat.le_refl _) (Byt.nil _ _) (by simp)).mono ?_; rintro e w3 hE; obtain ⟨A6, c6, rfl, HB6, HG6⟩ := hE.ok (by simpa using hle); clear hE)
        | fail)
      go_ret2
      have hb3 := HG6.out.nil
      exact ⟨HB.out.trans ((below_self (Below.refl _ _) hb2).trans (hb3.mono hb2.size) |>.mono HB.out.size), .inr (.inr ⟨HV1.out, hle, A6, c6, rfl, by rw [HN.out]; exact HB6.out.mono (by have := hb2.size; omega)⟩)⟩
    · go_enter Try.func12, Try.ntmps12
      go_wp2_with (first
        | (go_at_call 28; rw [← HW1.out]; refine HV.out.mono ?_; rintro e w2 ⟨rfl, hb2⟩
           have e0 := old_cell hb2 hc0 (by omega)
           have e1 := old_cell hb2 hc1 (by omega)
           have e2 := old_cell hb2 hc2 (by omega)
           have e3 := old_cell hb2 hc3 (by omega))
        | (go_at_call 29; refine (put_n _ t0 _ _ _ w2.heap.size [] w2 (Nat.le_refl _) HP.out HSH.out (Lies.bounded _ _ (HL.out.below hb2)) (fun _ h => h) (Nat.le_refl _) (Byt.nil _ _) (by simp)).mono ?_; rintro e w3 hE; obtain ⟨rfl, HG6⟩ := hE.fail (by simpa using hle); clear hE)
        | fail)
      go_ret2
      obtain ⟨v6, hg6⟩ := HG6.out
      have hb3 := hg6.nil
      exact ⟨HB.out.trans ((below_self (Below.refl _ _) hb2).trans (hb3.mono hb2.size) |>.mono HB.out.size), .inr (.inl ⟨HV1.out, by omega, rfl⟩)⟩
end Go.Proofs.Ytohoobgbmhondaa.Cod
