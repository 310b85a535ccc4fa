/- Equal of package codec. -/
import Derived.Test.YtohoobgbmhondaaCodEq
namespace Go.Proofs.Ytohoobgbmhondaa.Cod
open Go Go.RowKit

theorem peq_n : ∀ (n : Nat) (t u : T) (v v' : Value) (F G : Nat → Prop) (w : World), szT t ≤ n → Lies w F t v → Lies w G u v' →
    Calls Try.prog 15 #[v, v'] w fun e w' => e = .returned (.bool (eqT t u)) ∧ Below w.heap.size w w' := by
  intro n
  induction n with
  | zero => intro t u v v' F G w h; have := szT_pos t; omega
  | succ n ih =>
    intro t u v v' F G w hn hL hM
    obtain ⟨k, i, s, l⟩ := t
    obtain ⟨k', i', s', l'⟩ := u
    obtain ⟨sb, A, c, rfl, hs, hk, hi, hs2, hl, hA⟩ := hL.node
    obtain ⟨sb', A', c', rfl, hs', hk', hi', hs2', hl', hA'⟩ := hM.node
    have hsz : Hid (szT (.node k i s l) = 1 + szL l) := Lib.hid rfl
    have IH := Lib.hid ih
    have HS : Hid ((sb.toList = sb'.toList) ↔ (s = s')) := Lib.hid (by rw [Go.ByteArray.toList_eq, Go.ByteArray.toList_eq, hs, hs'])
    have HE : Hid (s = s' → sb = sb') := Lib.hid fun h => by rw [← hs, ← hs'] at h; cases sb; cases sb'; simp at h; simp [h]
    clear hL hM ih hs hs'
    obtain ⟨W1, hW1⟩ : ∃ W1, W1 = (w.alloc (.cells #[.int .i64 k, .int .i64 i, .string sb, .slice A l.length c] 33)).alloc (.cells #[.int .i64 k', .int .i64 i', .string sb', .slice A' l'.length c'] 33) := ⟨_, rfl⟩
    have HW1 := Lib.hid hW1
    have hB1 : Below w.heap.size w W1 := by rw [hW1]; exact ((Below.refl _ _).alloc (Nat.le_refl _) _).alloc (by simp) _
    have hA1 := hA.below hB1
    have hA1' := hA'.below hB1
    have hc0 : W1.cell? ⟨w.heap.size, 0, none⟩ = some (.int .i64 k) := by rw [hW1]; simp
    have hc1 : W1.cell? ⟨w.heap.size, 1, none⟩ = some (.int .i64 i) := by rw [hW1]; simp
    have hc2 : W1.cell? ⟨w.heap.size, 2, none⟩ = some (.string sb) := by rw [hW1]; simp
    have hc3 : W1.cell? ⟨w.heap.size, 3, none⟩ = some (.slice A l.length c) := by rw [hW1]; simp
    have hd0 : W1.cell? ⟨w.heap.size + 1, 0, none⟩ = some (.int .i64 k') := by rw [hW1]; simp
    have hd1 : W1.cell? ⟨w.heap.size + 1, 1, none⟩ = some (.int .i64 i') := by rw [hW1]; simp
    have hd2 : W1.cell? ⟨w.heap.size + 1, 2, none⟩ = some (.string sb') := by rw [hW1]; simp
    have hd3 : W1.cell? ⟨w.heap.size + 1, 3, none⟩ = some (.slice A' l'.length c') := by rw [hW1]; simp
    clear hA hA' hW1
    by_cases he : k = k' ∧ i = i' ∧ s = s' ∧ l.length = l'.length
    · obtain ⟨rfl, rfl, rfl, hlen⟩ := he
      obtain rfl := HE.out rfl
      have heq : Hid (eqT (.node k i s l) (.node k i s l') = eqL l l') := Lib.hid (by rw [eqT]; simp [hlen])
      rw [← hlen] at hd3 HW1 ⊢
      have HL := Lib.hid hlen
      clear HS HE hlen
      go_enter Try.func15, Try.ntmps15
      go_wp2
      rw [← HW1.out]
      go_loopw [38] (fun b wr => ∃ j : Nat, j ≤ l.length ∧ b = .int .i64 j ∧ Hid (eqL l l' = eqL (l.drop j) (l'.drop j)) ∧ Below W1.heap.size W1 wr)
        (fun b _ => l.length - (intOf b).toNat)
      case atStart => exact ⟨0, Nat.zero_le _, rfl, Lib.hid rfl, Below.refl _ _⟩
      case round =>
        obtain ⟨j, hj, rfl, hall, hb⟩ := hrel
        have e3 := (hb.cell (World.block_lt_of_cell? _ _ hc3)).trans hc3
        have g3 := (hb.cell (World.block_lt_of_cell? _ _ hd3)).trans hd3
        have hAw := hA1.below hb
        have hAw' := hA1'.below hb
        have hB := hB1.trans (hb.mono hB1.size)
        clear hA1 hA1' hc0 hc1 hc2 hc3 hd0 hd1 hd2 hd3
        by_cases hlt : j < l.length
        · have hlt' : j < l'.length := by have := HL.out; omega
          obtain ⟨b, off, xa, xi, xs, xB, xn, xc, rfl, hF, c0, c1, c2, c3, hLj⟩ := hAw.at hlt
          obtain ⟨b', off', ya, yi, ys, yB, yn, yc, rfl, hG, d0, d1, d2, d3, hMj⟩ := hAw'.at hlt'
          have hszj : szT l[j] ≤ n := by have h1 := szL_get hlt; have h2 := hsz.out; omega
          have HC : Hid (∀ w', Lies w' F l[j] (.agg #[.int .i64 xa, .int .i64 xi, .string xs, .slice xB xn xc]) → Lies w' G l'[j] (.agg #[.int .i64 ya, .int .i64 yi, .string ys, .slice yB yn yc]) → Calls Try.prog 15 #[.agg #[.int .i64 xa, .int .i64 xi, .string xs, .slice xB xn xc], .agg #[.int .i64 ya, .int .i64 yi, .string ys, .slice yB yn yc]] w' fun e w'' => e = .returned (.bool (eqT l[j] l'[j])) ∧ Below w'.heap.size w' w'') :=
            Lib.hid fun w' h1 h2 => IH.out _ _ _ _ F G w' hszj h1 h2
          obtain ⟨t0, ht0⟩ : ∃ t0, t0 = l[j] := ⟨_, rfl⟩
          obtain ⟨t1, ht1⟩ : ∃ t1, t1 = l'[j] := ⟨_, rfl⟩
          have hst : Hid (eqL l l' = (eqT t0 t1 && eqL (l.drop (j + 1)) (l'.drop (j + 1)))) := Lib.hid (by rw [hall.out, eqL_drop hlt hlt', ht0, ht1])
          rw [← ht0] at hLj HC
          rw [← ht1] at hMj HC
          clear hAw hAw' ht0 ht1 hlt' IH
          go_wp2_with fail
          obtain ⟨W2, hW2⟩ : ∃ W2, W2 = wr.alloc (.cells #[.int .i64 xa, .int .i64 xi, .string xs, .slice xB xn xc] 33) := ⟨_, rfl⟩
          have hB2 : Below wr.heap.size wr W2 := by rw [hW2]; exact (Below.refl _ _).alloc (Nat.le_refl _) _
          have x0 : W2.cell? ⟨wr.heap.size, 0, none⟩ = some (.int .i64 xa) := by rw [hW2]; simp
          have x1 : W2.cell? ⟨wr.heap.size, 1, none⟩ = some (.int .i64 xi) := by rw [hW2]; simp
          have x2 : W2.cell? ⟨wr.heap.size, 2, none⟩ = some (.string xs) := by rw [hW2]; simp
          have x3 : W2.cell? ⟨wr.heap.size, 3, none⟩ = some (.slice xB xn xc) := by rw [hW2]; simp
          replace g3 := (hB2.cell (World.block_lt_of_cell? _ _ g3)).trans g3
          replace d0 := (hB2.cell (World.block_lt_of_cell? _ _ d0)).trans d0
          replace d1 := (hB2.cell (World.block_lt_of_cell? _ _ d1)).trans d1
          replace d2 := (hB2.cell (World.block_lt_of_cell? _ _ d2)).trans d2
          replace d3 := (hB2.cell (World.block_lt_of_cell? _ _ d3)).trans d3
          replace hLj := hLj.below hB2
          replace hMj := hMj.below hB2
          rw [← hW2]
          clear hW2 e3 c0 c1 c2 c3
          go_region_held3 (fun w' => w'.cell? ⟨wr.heap.size, 0, none⟩ = some (.int .i64 xa) ∧ w'.cell? ⟨wr.heap.size, 1, none⟩ = some (.int .i64 xi) ∧ w'.cell? ⟨wr.heap.size, 2, none⟩ = some (.string xs) ∧ w'.cell? ⟨wr.heap.size, 3, none⟩ = some (.slice xB xn xc) ∧ w'.cell? ⟨w.heap.size + 1, 3, none⟩ = some (.slice (some ⟨b', off', none⟩) l.length c') ∧ w'.cell? ⟨b', off' + j * 4, none⟩ = some (.int .i64 ya) ∧ w'.cell? ⟨b', off' + j * 4 + 1, none⟩ = some (.int .i64 yi) ∧ w'.cell? ⟨b', off' + j * 4 + 2, none⟩ = some (.string ys) ∧ w'.cell? ⟨b', off' + j * 4 + 3, none⟩ = some (.slice yB yn yc) ∧ Lies w' F t0 (.agg #[.int .i64 xa, .int .i64 xi, .string xs, .slice xB xn xc]) ∧ Lies w' G t1 (.agg #[.int .i64 ya, .int .i64 yi, .string ys, .slice yB yn yc]) ∧ Below wr.heap.size wr w')
            (first
              | (refine ⟨?_, ?_, ?_, ?_, ?_, ?_, ?_, ?_, ?_, Lies.drew (by assumption), Lies.drew (by assumption), below_drew (by assumption)⟩
                 all_goals go_keep)
              | (go_split_ands
                 refine ⟨?_, ?_, ?_, ?_, ?_, ?_, ?_, ?_, ?_, Lies.below (by assumption) hbx, Lies.below (by assumption) hbx, below_self (by assumption) hbx⟩
                 all_goals ((rw [hbx.cell (World.block_lt_of_cell? _ _ (by assumption))]; assumption)))
              | (go_keep; done))
            (first
              | (go_at_call 15; go_split_ands; refine (HC.out _ (by assumption) (by assumption)).mono ?_; rintro e w' ⟨rfl, hbx⟩))
          all_goals go_wp2
          all_goals go_split_ands
          all_goals first
            | (have hw : (!eqT t0 t1) = false := by assumption
               have hv : eqT t0 t1 = true := by simpa using hw
               exact ⟨⟨j + 1, by omega, by go_num, Lib.hid (by rw [hst.out, hv]; rfl), hb.trans ((by assumption : Below wr.heap.size wr _).mono hb.size)⟩, by simp [intOf]; omega⟩)
            | (have hw : (!eqT t0 t1) = true := by assumption
               have hv : eqT t0 t1 = false := by simpa using hw
               go_ret
               exact ⟨ret_bool (by rw [heq.out, hst.out, hv]; rfl), hB.trans ((by assumption : Below wr.heap.size wr _).mono hB.size)⟩)
        · have hfin : Hid (eqT (.node k i s l) (.node k i s l') = true) := Lib.hid (by rw [heq.out, hall.out, eqL_end hlt])
          clear hAw hAw'
          go_wp2_with fail
          go_ret
          exact ⟨ret_bool hfin.out.symm, hB⟩
    · have hfin : Hid (eqT (.node k i s l) (.node k' i' s' l') = false) := Lib.hid (by
        rw [eqT, Bool.and_eq_false_iff]; left
        rw [← Bool.not_eq_true]; simp only [Bool.and_eq_true, decide_eq_true_eq]
        rintro ⟨⟨⟨h1, h2⟩, h3⟩, h4⟩
        exact he ⟨h1, h2, h3, h4⟩)
      have HN := Lib.hid he
      clear he
      go_enter Try.func15, Try.ntmps15
      go_wp2
      all_goals (try rw [← HW1.out])
      all_goals first
        | (exfalso
           have q4 : ((l.length : Int) != (l'.length : Int)) = false := by assumption
           have q3 : sb.toList = sb'.toList := by assumption
           exact HN.out ⟨by assumption, by assumption, HS.out.1 q3, by simp at q4; omega⟩)
        | (go_wp2
           go_ret
           first
             | exact ⟨ret_bool hfin.out.symm, hB1⟩
             | exact ⟨ret_bool hfin.out.symm, ((Below.refl _ _).alloc (Nat.le_refl _) _).alloc (by simp) _⟩)
theorem equal_any {t u : T} {v v' : Value} {F G : Nat → Prop} {w : World} (h : Lies w F t v) (h' : Lies w G u v') :
    Calls Try.prog 15 #[v, v'] w fun e w' => e = .returned (.bool (eqT t u)) ∧ Below w.heap.size w w' := peq_n _ t u v v' F G w (Nat.le_refl _) h h'
end Go.Proofs.Ytohoobgbmhondaa.Cod
