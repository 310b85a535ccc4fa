/- Read and Decode of the reference. -/
import Derived.Test.YtiababmfalnflaaCodRRead3
namespace Go.Proofs.Ytiababmfalnflaa.Cod
open Go Go.RowKit

theorem rread_n : ∀ (d : Nat), d ≤ 64 → RIH d := by
  intro d
  induction d with
  | zero => intro hd l A c w hB hl hc hA hlen; exact rread_out 0 hB hl hc hA (by omega) (.inr (.inl rfl))
  | succ e ih =>
    intro hd l A c w hB hl hc hA hlen
    have IH := Lib.hid (ih (by omega))
    cases l with
    | nil => rw [rd_nil]; exact rread_out (e + 1) hB hl hc hA hd (.inl rfl)
    | cons x r =>
      by_cases hx : x.toNat < 64
      · rw [rd_low hx]; exact rread_out (e + 1) hB hl hc hA hd (.inr (.inr ⟨x, r, rfl, hx⟩))
      · by_cases hm : x.toNat % 64 < 56
        · exact rread_short e IH hB hl hc hA hd hlen (by omega) hm
        · exact rread_long e IH hB hl hc hA hd hlen (by omega) hm
/-- what the reference's Decode answers -/
def RDecR (w : World) (x : Option T) (e : Ending) (w' : World) : Prop :=
  Below w.heap.size w w' ∧ match x with
    | none => e = .returned (.tuple #[.agg #[.int .i64 0, .int .i64 0, .string ⟨#[]⟩, .slice none 0 0], .int .i64 4])
    | some t => ∃ (a i : Int) (sb : ByteArray) (A : Option Addr) (n c : Nat), e = .returned (.tuple #[.agg #[.int .i64 a, .int .i64 i, .string sb, .slice A n c], .int .i64 0]) ∧
        Lies w' TT t (.agg #[.int .i64 a, .int .i64 i, .string sb, .slice A n c])
theorem Lies.set4 {w : World} {F : Nat → Prop} {t : T} {v : Value} (h : Lies w F t v) {B : Nat} (hF : ∀ b, F b → b ≠ B) (x0 x1 x2 x3 : Value) :
    Lies ((((w.setCell ⟨B, 0, none⟩ x0).setCell ⟨B, 1, none⟩ x1).setCell ⟨B, 2, none⟩ x2).setCell ⟨B, 3, none⟩ x3) F t v :=
  Lies.map (fun _ h => h) (fun b o x hb hx => by
    have ne : ∀ j, (⟨B, j, none⟩ : Addr) ≠ ⟨b, o, none⟩ := fun j e => hF b hb (by injection e with e1; exact e1.symm)
    exact (World.cell?_setCell_other _ _ _ _ (ne 3)).trans ((World.cell?_setCell_other _ _ _ _ (ne 2)).trans ((World.cell?_setCell_other _ _ _ _ (ne 1)).trans ((World.cell?_setCell_other _ _ _ _ (ne 0)).trans hx)))) t v h
theorem rdec_fail {w w2 : World} {N : Nat} {x : Option T} {y0 y1 y2 y3 : Value} (hx : x = none) (hN : w.heap.size = N) (hb : Below w.heap.size w w2)
    (e0 : w2.cell? ⟨N, 0, none⟩ = some y0) (e1 : w2.cell? ⟨N, 1, none⟩ = some y1) (e2 : w2.cell? ⟨N, 2, none⟩ = some y2) (e3 : w2.cell? ⟨N, 3, none⟩ = some y3) :
    ∀ W4, W4 = (((w2.setCell ⟨N, 0, none⟩ (.int .i64 0)).setCell ⟨N, 1, none⟩ (.int .i64 0)).setCell ⟨N, 2, none⟩ (.string ⟨#[]⟩)).setCell ⟨N, 3, none⟩ (.slice none 0 0) → (W4.cell? ⟨N, 0, none⟩ = some (.int .i64 0) ∧ W4.cell? ⟨N, 1, none⟩ = some (.int .i64 0) ∧ W4.cell? ⟨N, 2, none⟩ = some (.string ⟨#[]⟩) ∧ W4.cell? ⟨N, 3, none⟩ = some (.slice none 0 0)) ∧
      RDecR w x (.returned (.tuple #[.agg #[.int .i64 0, .int .i64 0, .string ⟨#[]⟩, .slice none 0 0], .int .i64 4])) W4 := by
  intro W4 h
  refine ⟨set4_cells e0 e1 e2 e3 _ _ _ _ h, ?_⟩
  subst h hx
  exact ⟨below_set4 hb (by omega) _ _ _ _, rfl⟩
theorem rdec_made {w w2 : World} {N : Nat} {x : Option T} {t : T} {F : Nat → Prop} {a i : Int} {sb : ByteArray} {A' : Option Addr} {m c2 : Nat} {y0 y1 y2 y3 : Value} (hx : x = some t) (hN : w.heap.size = N) (hb : Below w.heap.size w w2)
    (hL : Lies w2 F t (.agg #[.int .i64 a, .int .i64 i, .string sb, .slice A' m c2])) (hF : ∀ b, F b → b ≠ N)
    (e0 : w2.cell? ⟨N, 0, none⟩ = some y0) (e1 : w2.cell? ⟨N, 1, none⟩ = some y1) (e2 : w2.cell? ⟨N, 2, none⟩ = some y2) (e3 : w2.cell? ⟨N, 3, none⟩ = some y3) :
    ∀ W4, W4 = (((w2.setCell ⟨N, 0, none⟩ (.int .i64 a)).setCell ⟨N, 1, none⟩ (.int .i64 i)).setCell ⟨N, 2, none⟩ (.string sb)).setCell ⟨N, 3, none⟩ (.slice A' m c2) → (W4.cell? ⟨N, 0, none⟩ = some (.int .i64 a) ∧ W4.cell? ⟨N, 1, none⟩ = some (.int .i64 i) ∧ W4.cell? ⟨N, 2, none⟩ = some (.string sb) ∧ W4.cell? ⟨N, 3, none⟩ = some (.slice A' m c2)) ∧
      RDecR w x (.returned (.tuple #[.agg #[.int .i64 a, .int .i64 i, .string sb, .slice A' m c2], .int .i64 0])) W4 := by
  intro W4 h
  refine ⟨set4_cells e0 e1 e2 e3 _ _ _ _ h, ?_⟩
  subst h hx
  exact ⟨below_set4 hb (by omega) _ _ _ _, _, _, _, _, _, _, rfl, (hL.set4 hF _ _ _ _).mono fun _ _ => trivial⟩
set_option maxRecDepth 100000 in
set_option maxHeartbeats 4000000 in
theorem rdecode_any {l : List UInt8} {A : Option Addr} {c : Nat} {w : World} (hB : BytAt w w.heap.size A l) (hl : l.length ≤ c) (hc : c ≤ 9223372036854775807) (hA : A = none → c = 0) (hlen : l.length ≤ 3000) :
    Calls Try.prog 21 #[.slice A l.length c] w (RDecR w (decV l)) := by
  obtain ⟨N, hN⟩ : ∃ N, w.heap.size = N := ⟨_, rfl⟩
  obtain ⟨Wa, hWa⟩ : ∃ W, W = w.alloc Z4 := ⟨_, rfl⟩
  have ba : Below w.heap.size w Wa := by rw [hWa]; exact below_new _ _
  have hz : Box4 Wa N (.int .i64 0) (.int .i64 0) (.string ⟨#[]⟩) (.slice none 0 0) := by
    rw [hWa]; exact ⟨new_cell hN _ _ 0 rfl, new_cell hN _ _ 1 rfl, new_cell hN _ _ 2 rfl, new_cell hN _ _ 3 rfl, fun j => new_frozen hN _ _ j⟩
  have sa : Wa.heap.size = N + 1 := by rw [hWa]; exact size_new hN _
  have HZ := Lib.hid hz
  have HNa : Hid (N < Wa.heap.size) := Lib.hid (by omega)
  have HSA := Lib.hid sa
  have HW := Lib.hid hWa
  have HB := Lib.hid ba
  have HN := Lib.hid hN
  have HC0 := rread_n 64 (Nat.le_refl _) l A c Wa (bytAt_below hB ba) hl hc hA hlen
  clear hz hWa ba hB sa
  cases hx : rd 64 l with
  | none =>
    have HVN : Hid (decV l = none) := Lib.hid (by unfold decV; rw [hx]; split <;> rfl)
    rw [hx] at HC0
    have HC := Lib.hid HC0
    clear hx HC0
    go_enter Try.func21, Try.ntmps21
    go_wp2_with (first
      | (go_at_call 25; rw [← HW.out]; refine HC.out.mono ?_; rintro e' w1 ⟨hb, rfl⟩
         have hbn := below_new w1 (.cells #[.int .i64 0, .int .i64 0, .string ⟨#[]⟩, .slice none 0 0] 24)
         have hz2 := (HZ.out.go hb HNa.out).go hbn (Nat.lt_of_lt_of_le HNa.out hb.size)
         have z0 := hz2.c0
         have z1 := hz2.c1
         have z2 := hz2.c2
         have z3 := hz2.c3
         have f0 := hz2.free 0
         have f1 := hz2.free 1
         have f2 := hz2.free 2
         have f3 := hz2.free 3
         have hb2 := below_self (below_self HB.out hb) hbn
         have HF := Lib.hid (rdec_fail (x := decV l) HVN.out HN.out hb2 z0 z1 z2 z3)
         clear hb hbn hz2 hb2)
      | fail)
    obtain ⟨W4, hW4⟩ : ∃ W4, W4 = ((((w1.alloc (.cells #[.int .i64 0, .int .i64 0, .string ⟨#[]⟩, .slice none 0 0] 24)).setCell ⟨N, 0, none⟩ (.int .i64 0)).setCell ⟨N, 1, none⟩ (.int .i64 0)).setCell ⟨N, 2, none⟩ (.string ⟨#[]⟩)).setCell ⟨N, 3, none⟩ (.slice none 0 0) := ⟨_, rfl⟩
    rw [← hW4]
    obtain ⟨⟨k0, k1, k2, k3⟩, hp⟩ := HF.out W4 hW4
    clear hW4
    exact bodyPost_ret (v := .tuple #[.agg #[.int .i64 0, .int .i64 0, .string ⟨#[]⟩, .slice none 0 0], .int .i64 4]) (by simp [results, Try.results21, go_sem, k0, k1, k2, k3]) rfl hp
  | some p =>
    obtain ⟨t, r⟩ := p
    have hsh := rd_shorter (by omega) hx
    obtain ⟨u, hu⟩ : ∃ u, l.length - r.length = u := ⟨_, rfl⟩
    rw [hx] at HC0
    have HC : Hid (Calls Try.prog 25 #[.slice A l.length c, .int .i64 64] Wa fun e' w' => ∃ (a i : Int) (sb : ByteArray) (A : Option Addr) (m c2 : Nat), e' = .returned (.tuple #[.agg #[.int .i64 a, .int .i64 i, .string sb, .slice A m c2], .int .i64 (u : Int)]) ∧
        Lies w' (fun b => Wa.heap.size ≤ b ∧ b < w'.heap.size) t (.agg #[.int .i64 a, .int .i64 i, .string sb, .slice A m c2]) ∧ Below Wa.heap.size Wa w') := Lib.hid (HC0.mono fun e' w' h => by
      obtain ⟨hb, a, i, sb, A, m, c2, he, hL⟩ := h
      rw [hu] at he
      exact ⟨a, i, sb, A, m, c2, he, hL, hb⟩)
    have hu1 : ¬ (u : Int) = 0 := by omega
    have hub : ((u : Int) == 0) = false := by simpa using hu1
    have hu3 : ¬ (1048576 : Int) < (u : Int) := by omega
    by_cases hr : r = []
    · have HV : Hid (decV l = some t) := Lib.hid (by unfold decV; rw [hx, hr, if_neg (by omega)])
      have hlu : l.length = u := by rw [hr] at hu; simpa using hu
      rw [hlu] at HC ⊢
      clear hx HC0 hr hsh hu hlu
      go_enter Try.func21, Try.ntmps21
      go_wp2_with (first
        | (go_at_call 25; rw [← HW.out]; refine HC.out.mono ?_; rintro e' w1 ⟨a, i, sb, A', m, c2, rfl, hLq, hb⟩
           have hbn := below_new w1 (.cells #[.int .i64 a, .int .i64 i, .string sb, .slice A' m c2] 24)
           have hz2 := (HZ.out.go hb HNa.out).go hbn (Nat.lt_of_lt_of_le HNa.out hb.size)
           have z0 := hz2.c0
           have z1 := hz2.c1
           have z2 := hz2.c2
           have z3 := hz2.c3
           have f0 := hz2.free 0
           have f1 := hz2.free 1
           have f2 := hz2.free 2
           have f3 := hz2.free 3
           have hb2 := below_self (below_self HB.out hb) hbn
           have HF := Lib.hid (rdec_made (x := decV l) HV.out HN.out hb2 (hLq.below hbn) (fun b hb => by have := HSA.out; omega) z0 z1 z2 z3)
           clear hb hbn hz2 hb2)
        | fail)
      obtain ⟨W4, hW4⟩ : ∃ W4, W4 = ((((w1.alloc (.cells #[.int .i64 a, .int .i64 i, .string sb, .slice A' m c2] 24)).setCell ⟨N, 0, none⟩ (.int .i64 a)).setCell ⟨N, 1, none⟩ (.int .i64 i)).setCell ⟨N, 2, none⟩ (.string sb)).setCell ⟨N, 3, none⟩ (.slice A' m c2) := ⟨_, rfl⟩
      rw [← hW4]
      obtain ⟨⟨k0, k1, k2, k3⟩, hp⟩ := HF.out W4 hW4
      clear hW4
      exact bodyPost_ret (v := .tuple #[.agg #[.int .i64 a, .int .i64 i, .string sb, .slice A' m c2], .int .i64 0]) (by simp [results, Try.results21, go_sem, k0, k1, k2, k3]) rfl hp
    · have HV : Hid (decV l = none) := Lib.hid (by
        unfold decV; rw [hx]
        cases r with
        | nil => exact absurd rfl hr
        | cons a q => split <;> rfl)
      have hr1 : 0 < r.length := List.length_pos_iff.2 hr
      have hul : ¬ (u : Int) = (l.length : Int) := by omega
      have hulb : ((u : Int) != (l.length : Int)) = true := by simpa using hul
      clear hx HC0 hr hsh hu
      go_enter Try.func21, Try.ntmps21
      go_wp2_with (first
        | (go_at_call 25; rw [← HW.out]; refine HC.out.mono ?_; rintro e' w1 ⟨a, i, sb, A', m, c2, rfl, hLq, hb⟩
           have hbn := below_new w1 (.cells #[.int .i64 a, .int .i64 i, .string sb, .slice A' m c2] 24)
           have hz2 := (HZ.out.go hb HNa.out).go hbn (Nat.lt_of_lt_of_le HNa.out hb.size)
           have z0 := hz2.c0
           have z1 := hz2.c1
           have z2 := hz2.c2
           have z3 := hz2.c3
           have f0 := hz2.free 0
           have f1 := hz2.free 1
           have f2 := hz2.free 2
           have f3 := hz2.free 3
           have hb2 := below_self (below_self HB.out hb) hbn
           have HF := Lib.hid (rdec_fail (x := decV l) HV.out HN.out hb2 z0 z1 z2 z3)
           clear hb hbn hz2 hb2)
        | fail)
      obtain ⟨W4, hW4⟩ : ∃ W4, W4 = ((((w1.alloc (.cells #[.int .i64 a, .int .i64 i, .string sb, .slice A' m c2] 24)).setCell ⟨N, 0, none⟩ (.int .i64 0)).setCell ⟨N, 1, none⟩ (.int .i64 0)).setCell ⟨N, 2, none⟩ (.string ⟨#[]⟩)).setCell ⟨N, 3, none⟩ (.slice none 0 0) := ⟨_, rfl⟩
      rw [← hW4]
      obtain ⟨⟨k0, k1, k2, k3⟩, hp⟩ := HF.out W4 hW4
      clear hW4
      exact bodyPost_ret (v := .tuple #[.agg #[.int .i64 0, .int .i64 0, .string ⟨#[]⟩, .slice none 0 0], .int .i64 4]) (by simp [results, Try.results21, go_sem, k0, k1, k2, k3]) rfl hp
end Go.Proofs.Ytiababmfalnflaa.Cod
