/- The closures of the reader of package codec, and list. -/
import Derived.Test.YtohoobgbmhondaaCodVals
namespace Go.Proofs.Ytohoobgbmhondaa.Cod
open Go Go.RowKit

theorem own_unique {w : World} {base n : Nat} {e : TypeId} {size : Nat} {v : Value} {xs ys : List Value} (h : w.ownsRow base e size v n xs) (h' : w.ownsRow base e size v n ys) : xs = ys := by
  rcases h.2 with ⟨rfl, hn⟩ | ⟨g, cap, cur, rfl, _, hg, _, _, _, ht⟩
  · have h1 := h.1
    have h2 := h'.1
    subst hn
    have e1 : xs = [] := List.eq_nil_of_length_eq_zero (by simpa using h1)
    have e2 : ys = [] := List.eq_nil_of_length_eq_zero (by simpa using h2)
    rw [e1, e2]
  · rcases h'.2 with ⟨e1, _⟩ | ⟨g', cap', cur', e1, _, hg', _, _, _, ht'⟩
    · cases e1
    · injection e1 with e1 _ _
      injection e1 with e1
      injection e1 with e1
      subst e1
      rw [hg] at hg'
      injection hg' with hg'
      injection hg' with hg'
      rw [← ht, ← ht', hg']
theorem OutS.rebase {W1 w : World} {X : Nat} {ty : TypeId} {k i : Int} {sb : ByteArray} {v : Value} {l : List T} (h : OutS W1 w X ty k i sb v l) : OutS w w X ty k i sb v l :=
  ⟨h.c0, h.c1, h.c2, h.c3, h.free, h.grows, ⟨rfl, rfl, rfl, Nat.le_refl _, fun _ _ => rfl⟩, h.lt⟩
theorem OutS.by_ {W1 w w' : World} {X R : Nat} {ty : TypeId} {k i : Int} {sb : ByteArray} {v : Value} {l : List T} (h : OutS W1 w X ty k i sb v l) (hg : w.grownBy w' (some R)) (hR : R < X) : OutS w' w' X ty k i sb v l :=
  ⟨by_cell hg hR h.c0, by_cell hg hR h.c1, by_cell hg hR h.c2, by_cell hg hR h.c3, fun j => by_frozen hg h.lt hR (h.free j), h.grows.keep hg.size fun b hb hlt => hg.block b hlt (some_ne (by omega)), ⟨rfl, rfl, rfl, Nat.le_refl _, fun _ _ => rfl⟩, Nat.lt_of_lt_of_le h.lt hg.size⟩
theorem by_belowX {w0 w w' : World} {R : Option Nat} {X : Nat} (h : w0.grownBy w R) (hb : Below X w w') (hX : w0.heap.size ≤ X) : w0.grownBy w' R :=
  ⟨hb.os.trans h.os, hb.tape.trans h.tape, hb.output.trans h.output, Nat.le_trans h.size hb.size, fun k hk hne => (hb.block k (Nat.lt_of_lt_of_le hk hX)).trans (h.block k hk hne)⟩
theorem Rd.belowX {w w' : World} {R X : Nat} {l : List UInt8} (h : Rd w R l) (hb : Below X w w') (hR : R < X) : Rd w' R l := by
  obtain ⟨A, c, h1, h2, h3, h4, h5, h6⟩ := h
  exact ⟨A, c, (hb.cell (p := ⟨R, 0, none⟩) hR).trans h1, h2, h3, (hb.frozen (p := ⟨R, 0, none⟩) hR).trans h4, h5.keep fun b o x hlt hx => (hb.cell (p := ⟨b, o, none⟩) (show b < X by omega)).trans hx, h6⟩
/-- what is handed on -/
theorem val_pass {R N : Nat} {w Wa w2 : World} {i0 i1 i2 i3 : Value} {t : T} {r : List UInt8} {a i : Int} {sb : ByteArray} {A : Option Addr} {n c : Nat}
    (hL : Lies w2 (fun b => Wa.heap.size ≤ b ∧ b < w2.heap.size) t (.agg #[.int .i64 a, .int .i64 i, .string sb, .slice A n c])) (hWa : N < Wa.heap.size)
    (hg : w.grownBy w2 (some R)) (hN : w.heap.size ≤ N) (hRN : R < N) (hRd : Rd w2 R r) (e0 : w2.cell? ⟨N, 0, none⟩ = some i0) (e1 : w2.cell? ⟨N, 1, none⟩ = some i1) (e2 : w2.cell? ⟨N, 2, none⟩ = some i2) (e3 : w2.cell? ⟨N, 3, none⟩ = some i3) :
    ∀ W4, W4 = (((w2.setCell ⟨N, 0, none⟩ (.int .i64 a)).setCell ⟨N, 1, none⟩ (.int .i64 i)).setCell ⟨N, 2, none⟩ (.string sb)).setCell ⟨N, 3, none⟩ (.slice A n c) →
      (W4.cell? ⟨N, 0, none⟩ = some (.int .i64 a) ∧ W4.cell? ⟨N, 1, none⟩ = some (.int .i64 i) ∧ W4.cell? ⟨N, 2, none⟩ = some (.string sb) ∧ W4.cell? ⟨N, 3, none⟩ = some (.slice A n c)) ∧
      ValR w R (some (t, r)) (.returned (.tuple #[.agg #[.int .i64 a, .int .i64 i, .string sb, .slice A n c], .bool true])) W4 := by
  intro W4 h
  refine ⟨set4_cells e0 e1 e2 e3 _ _ _ _ h, ?_⟩
  have hs : W4.heap.size = w2.heap.size := by rw [h]; simp
  subst h
  refine ⟨by_set4 hg hN _ _ _ _, hRd.set4 hRN _ _ _ _, a, i, sb, A, n, c, rfl, ?_⟩
  refine Lies.map (fun b hb => ⟨by omega, by rw [hs]; exact hb.2⟩) (fun b o x hf hx => ?_) t _ hL
  have hne : ∀ q, (⟨N, q, none⟩ : Addr) ≠ ⟨b, o, none⟩ := fun q e => by injection e with e1 _; omega
  rw [World.cell?_setCell_other _ _ _ _ (hne 3), World.cell?_setCell_other _ _ _ _ (hne 2), World.cell?_setCell_other _ _ _ _ (hne 1), World.cell?_setCell_other _ _ _ _ (hne 0)]
  exact hx
theorem val_fail' {R N : Nat} {w w2 : World} {i0 i1 i2 i3 : Value} (hg : w.grownBy w2 (some R)) (hN : w.heap.size ≤ N) (hRN : R < N) (hRd : ∃ r, Rd w2 R r) (e0 : w2.cell? ⟨N, 0, none⟩ = some i0) (e1 : w2.cell? ⟨N, 1, none⟩ = some i1) (e2 : w2.cell? ⟨N, 2, none⟩ = some i2) (e3 : w2.cell? ⟨N, 3, none⟩ = some i3) :
    ∀ W4, W4 = (((w2.setCell ⟨N, 0, none⟩ (.int .i64 0)).setCell ⟨N, 1, none⟩ (.int .i64 0)).setCell ⟨N, 2, none⟩ (.string ⟨#[]⟩)).setCell ⟨N, 3, none⟩ (.slice none 0 0) →
      (W4.cell? ⟨N, 0, none⟩ = some (.int .i64 0) ∧ W4.cell? ⟨N, 1, none⟩ = some (.int .i64 0) ∧ W4.cell? ⟨N, 2, none⟩ = some (.string ⟨#[]⟩) ∧ W4.cell? ⟨N, 3, none⟩ = some (.slice none 0 0)) ∧
      ValR w R none (.returned (.tuple #[.agg #[.int .i64 0, .int .i64 0, .string ⟨#[]⟩, .slice none 0 0], .bool false])) W4 := by
  intro W4 h
  refine ⟨set4_cells e0 e1 e2 e3 _ _ _ _ h, ?_⟩
  subst h
  obtain ⟨r, hRd⟩ := hRd
  exact ⟨by_set4 hg hN _ _ _ _, rfl, _, hRd.set4 hRN _ _ _ _⟩
def ptr (B : Nat) : Value := .pointer (some ⟨B, 0, none⟩)
/-- the variables that the reader's closure captured -/
structure Env (w : World) (R Br Bf : Nat) : Prop where
  r : w.cell? ⟨Br, 0, none⟩ = some (.pointer (some ⟨R, 0, none⟩))
  f : w.cell? ⟨Bf, 0, none⟩ = some (.func (.func 37) #[] #[.pointer (some ⟨Br, 0, none⟩), .pointer (some ⟨Bf, 0, none⟩)])
  rb : R < Br
  rf : R < Bf
theorem Env.by_ {w w' : World} {R Br Bf : Nat} (h : Env w R Br Bf) (hg : w.grownBy w' (some R)) : Env w' R Br Bf := ⟨by_cell hg h.rb h.r, by_cell hg h.rf h.f, h.rb, h.rf⟩
/-- the closure at depth d -/
def Clo (d : Nat) : Prop := ∀ (w : World) (R Br Bf : Nat) (l : List UInt8), Rd w R l → l.length ≤ 10000000 → Env w R Br Bf →
  Calls Try.prog 37 #[.int .i64 (d : Int), .pointer (some ⟨Br, 0, none⟩), .pointer (some ⟨Bf, 0, none⟩)] w (ValR w R (rd d l))
set_option maxRecDepth 100000 in
set_option maxHeartbeats 1000000 in
theorem elem_any {d : Nat} (hC : Clo d) {w : World} {R Br Bf D : Nat} {l : List UInt8} (h : Rd w R l) (hl : l.length ≤ 10000000) (hE : Env w R Br Bf) (hD : w.cell? ⟨D, 0, none⟩ = some (.int .i64 ((d : Int) + 1))) (hd : d ≤ 64) :
    Calls Try.prog 42 #[.pointer (some ⟨Bf, 0, none⟩), .pointer (some ⟨D, 0, none⟩)] w (ValR w R (rd d l)) := by
  obtain ⟨Wa, hWa⟩ : ∃ W, W = w.alloc (.cells #[.int .i64 0, .int .i64 0, .string ⟨#[]⟩, .slice none 0 0] 33) := ⟨_, rfl⟩
  obtain ⟨N, hN⟩ : ∃ N, w.heap.size = N := ⟨_, rfl⟩
  have hRN : R < N := hN ▸ h.lt
  have hb : Below w.heap.size w Wa := by rw [hWa]; exact below_new _ _
  have HG := Lib.hid (by_below hb (some R))
  have hE2 := hE.by_ HG.out
  have HC := Lib.hid (hC Wa R Br Bf l (h.below hb) hl hE2)
  have q0 : (w.alloc (.cells #[.int .i64 0, .int .i64 0, .string ⟨#[]⟩, .slice none 0 0] 33)).cell? ⟨Bf, 0, none⟩ = some (.func (.func 37) #[] #[.pointer (some ⟨Br, 0, none⟩), .pointer (some ⟨Bf, 0, none⟩)]) := hWa ▸ hE2.f
  have q1 : (w.alloc (.cells #[.int .i64 0, .int .i64 0, .string ⟨#[]⟩, .slice none 0 0] 33)).cell? ⟨D, 0, none⟩ = some (.int .i64 ((d : Int) + 1)) := hWa ▸ ((hb.cell (World.block_lt_of_cell? _ _ hD)).trans hD)
  have c0 : Wa.cell? ⟨N, 0, none⟩ = some (.int .i64 0) := by rw [hWa]; exact new_cell hN _ _ 0 rfl
  have c1 : Wa.cell? ⟨N, 1, none⟩ = some (.int .i64 0) := by rw [hWa]; exact new_cell hN _ _ 1 rfl
  have c2 : Wa.cell? ⟨N, 2, none⟩ = some (.string ⟨#[]⟩) := by rw [hWa]; exact new_cell hN _ _ 2 rfl
  have c3 : Wa.cell? ⟨N, 3, none⟩ = some (.slice none 0 0) := by rw [hWa]; exact new_cell hN _ _ 3 rfl
  have hsz : N < Wa.heap.size := by rw [hWa, size_new hN]; omega
  have HW := Lib.hid hWa
  have HSZ := Lib.hid hsz
  have CF : Hid (∀ j, Wa.frozen? ⟨N, j, none⟩ = false) := Lib.hid fun j => by rw [hWa]; exact new_frozen hN _ _ j
  have HN := Lib.hid hN
  clear h hb hWa hsz hC hE hE2 hD
  cases hx : rd d l with
  | none =>
    rw [hx] at HC
    clear hx
    go_enter Try.func42, Try.ntmps42
    go_wp2_with (first
      | (go_at_call 37; rw [← HW.out]; refine HC.out.mono ?_; rintro e w1 ⟨hg, rfl, hRd⟩
         have d0 := by_cell hg hRN c0
         have d1 := by_cell hg hRN c1
         have d2 := by_cell hg hRN c2
         have d3 := by_cell hg hRN c3
         have f0 := by_frozen hg HSZ.out hRN (CF.out 0)
         have f1 := by_frozen hg HSZ.out hRN (CF.out 1)
         have f2 := by_frozen hg HSZ.out hRN (CF.out 2)
         have f3 := by_frozen hg HSZ.out hRN (CF.out 3)
         have HF := Lib.hid (val_fail' (by_trans HG.out hg) (by rw [HN.out]; exact Nat.le_refl _) hRN hRd d0 d1 d2 d3)
         clear hg hRd)
      | fail)
    obtain ⟨W4, hW4⟩ : ∃ W4, W4 = (((w1.setCell ⟨N, 0, none⟩ (.int .i64 0)).setCell ⟨N, 1, none⟩ (.int .i64 0)).setCell ⟨N, 2, none⟩ (.string ⟨#[]⟩)).setCell ⟨N, 3, none⟩ (.slice none 0 0) := ⟨_, rfl⟩
    rw [← hW4]
    obtain ⟨⟨k0, k1, k2, k3⟩, hp⟩ := HF.out W4 hW4
    clear hW4
    exact bodyPost_ret (v := .tuple #[.agg #[.int .i64 0, .int .i64 0, .string ⟨#[]⟩, .slice none 0 0], .bool false]) (by simp [results, Try.results42, go_sem, k0, k1, k2, k3]) rfl hp
  | some x =>
    obtain ⟨t, r⟩ := x
    rw [hx] at HC
    clear hx
    go_enter Try.func42, Try.ntmps42
    go_wp2_with (first
      | (go_at_call 37; rw [← HW.out]; refine HC.out.mono ?_; rintro e w1 ⟨hg, hRd, a, i, sb, A, n, c, rfl, hL⟩
         have d0 := by_cell hg hRN c0
         have d1 := by_cell hg hRN c1
         have d2 := by_cell hg hRN c2
         have d3 := by_cell hg hRN c3
         have f0 := by_frozen hg HSZ.out hRN (CF.out 0)
         have f1 := by_frozen hg HSZ.out hRN (CF.out 1)
         have f2 := by_frozen hg HSZ.out hRN (CF.out 2)
         have f3 := by_frozen hg HSZ.out hRN (CF.out 3)
         have HF := Lib.hid (val_pass hL HSZ.out (by_trans HG.out hg) (by rw [HN.out]; exact Nat.le_refl _) hRN hRd d0 d1 d2 d3)
         clear hg hRd hL)
      | fail)
    obtain ⟨W4, hW4⟩ : ∃ W4, W4 = (((w1.setCell ⟨N, 0, none⟩ (.int .i64 a)).setCell ⟨N, 1, none⟩ (.int .i64 i)).setCell ⟨N, 2, none⟩ (.string sb)).setCell ⟨N, 3, none⟩ (.slice A n c) := ⟨_, rfl⟩
    rw [← hW4]
    obtain ⟨⟨k0, k1, k2, k3⟩, hp⟩ := HF.out W4 hW4
    clear hW4
    exact bodyPost_ret (v := .tuple #[.agg #[.int .i64 a, .int .i64 i, .string sb, .slice A n c], .bool true]) (by simp [results, Try.results42, go_sem, k0, k1, k2, k3]) rfl hp
end Go.Proofs.Ytohoobgbmhondaa.Cod
