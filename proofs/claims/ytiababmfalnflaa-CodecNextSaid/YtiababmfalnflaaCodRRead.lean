/- Read of the reference. -/
import Derived.Test.YtiababmfalnflaaCodBack
import Derived.Deep.DeepCutAuto
namespace Go.Proofs.Ytiababmfalnflaa.Cod
open Go Go.RowKit

/-- what the reference's Read answers -/
def RReadR (w : World) (l : List UInt8) (x : Option (T × List UInt8)) (e : Ending) (w' : World) : Prop :=
  Below w.heap.size w w' ∧ match x with
    | none => e = .returned (.tuple #[.agg #[.int .i64 0, .int .i64 0, .string ⟨#[]⟩, .slice none 0 0], .int .i64 0])
    | some (t, r) => ∃ (a i : Int) (sb : ByteArray) (A : Option Addr) (n c : Nat), e = .returned (.tuple #[.agg #[.int .i64 a, .int .i64 i, .string sb, .slice A n c], .int .i64 ((l.length - r.length : Nat) : Int)]) ∧
        Lies w' (fun b => w.heap.size ≤ b ∧ b < w'.heap.size) t (.agg #[.int .i64 a, .int .i64 i, .string sb, .slice A n c])
abbrev Z4 : Obj := .cells #[.int .i64 0, .int .i64 0, .string ⟨#[]⟩, .slice none 0 0] 24
theorem rread_fail {w w2 : World} {N : Nat} {l : List UInt8} {x : Option (T × List UInt8)} {y0 y1 y2 y3 : Value} (hx : x = none) (hN : w.heap.size = N) (hb : Below w.heap.size w w2)
    (e0 : w2.cell? ⟨N, 0, none⟩ = some y0) (e1 : w2.cell? ⟨N, 1, none⟩ = some y1) (e2 : w2.cell? ⟨N, 2, none⟩ = some y2) (e3 : w2.cell? ⟨N, 3, none⟩ = some y3) :
    ∀ W4, W4 = (((w2.setCell ⟨N, 0, none⟩ (.int .i64 0)).setCell ⟨N, 1, none⟩ (.int .i64 0)).setCell ⟨N, 2, none⟩ (.string ⟨#[]⟩)).setCell ⟨N, 3, none⟩ (.slice none 0 0) →
      (W4.cell? ⟨N, 0, none⟩ = some (.int .i64 0) ∧ W4.cell? ⟨N, 1, none⟩ = some (.int .i64 0) ∧ W4.cell? ⟨N, 2, none⟩ = some (.string ⟨#[]⟩) ∧ W4.cell? ⟨N, 3, none⟩ = some (.slice none 0 0)) ∧
      RReadR w l x (.returned (.tuple #[.agg #[.int .i64 0, .int .i64 0, .string ⟨#[]⟩, .slice none 0 0], .int .i64 0])) W4 := by
  intro W4 h
  refine ⟨set4_cells e0 e1 e2 e3 _ _ _ _ h, ?_⟩
  subst h hx
  exact ⟨below_set4 hb (by omega) _ _ _ _, rfl⟩
set_option maxRecDepth 100000 in
set_option maxHeartbeats 4000000 in
theorem rread_out {l : List UInt8} {A : Option Addr} {c : Nat} {w : World} (d : Nat) (hB : BytAt w w.heap.size A l) (hl : l.length ≤ c) (_hc : c ≤ 9223372036854775807) (_hA : A = none → c = 0) (_hd : d ≤ 64)
    (h : l = [] ∨ d = 0 ∨ ∃ x r, l = x :: r ∧ x.toNat < 64) :
    Calls Try.prog 25 #[.slice A l.length c, .int .i64 d] w (RReadR w l none) := by
  obtain ⟨N, hN⟩ : ∃ N, w.heap.size = N := ⟨_, rfl⟩
  obtain ⟨Wa, hWa⟩ : ∃ W, W = w.alloc Z4 := ⟨_, rfl⟩
  have ba : Below w.heap.size w Wa := by rw [hWa]; exact below_new _ _
  have z0 : Wa.cell? ⟨N, 0, none⟩ = some (.int .i64 0) := by rw [hWa]; exact new_cell hN _ _ 0 rfl
  have z1 : Wa.cell? ⟨N, 1, none⟩ = some (.int .i64 0) := by rw [hWa]; exact new_cell hN _ _ 1 rfl
  have z2 : Wa.cell? ⟨N, 2, none⟩ = some (.string ⟨#[]⟩) := by rw [hWa]; exact new_cell hN _ _ 2 rfl
  have z3 : Wa.cell? ⟨N, 3, none⟩ = some (.slice none 0 0) := by rw [hWa]; exact new_cell hN _ _ 3 rfl
  have hf : ∀ j, Wa.frozen? ⟨N, j, none⟩ = false := fun j => by rw [hWa]; exact new_frozen hN _ _ j
  have f0 := hf 0
  have f1 := hf 1
  have f2 := hf 2
  have f3 := hf 3
  have HW := Lib.hid hWa
  have HF := Lib.hid (rread_fail (l := l) (x := none) rfl hN ba z0 z1 z2 z3)
  have hBa := bytAt_below hB ba
  clear hf hWa hB
  have HR : Hid (RReadR w l none (.returned (.tuple #[.agg #[.int .i64 0, .int .i64 0, .string ⟨#[]⟩, .slice none 0 0], .int .i64 0])) Wa) := Lib.hid ⟨ba, rfl⟩
  by_cases hl0 : l.length = 0
  · have hl1 : l = [] := List.eq_nil_of_length_eq_zero hl0
    subst hl1
    go_enter Try.func25, Try.ntmps25
    go_wp2_with fail
    rw [← HW.out]
    exact bodyPost_ret (v := .tuple #[.agg #[.int .i64 0, .int .i64 0, .string ⟨#[]⟩, .slice none 0 0], .int .i64 0]) (by simp [results, Try.results25, go_sem, z0, z1, z2, z3]) rfl HR.out
  · by_cases hd0 : d = 0
    · subst hd0
      have hli : ¬ (l.length : Int) = 0 := by omega
      go_enter Try.func25, Try.ntmps25
      go_wp2_with fail
      rw [← HW.out]
      exact bodyPost_ret (v := .tuple #[.agg #[.int .i64 0, .int .i64 0, .string ⟨#[]⟩, .slice none 0 0], .int .i64 0]) (by simp [results, Try.results25, go_sem, z0, z1, z2, z3]) rfl HR.out
    · obtain ⟨x, r, rfl, hx⟩ : ∃ x r, l = x :: r ∧ x.toNat < 64 := by
        rcases h with h | h | h
        · subst h; simp at hl0
        · exact absurd h hd0
        · exact h
      obtain ⟨g, off, rfl, hg, hcell⟩ := hBa.pos (by simp)
      obtain ⟨y, hy⟩ : ∃ y : Nat, x.toNat = y := ⟨_, rfl⟩
      have b0 : Wa.cell? ⟨g, off, none⟩ = some (.int .u8 (y : Int)) := by have := hcell 0 (by simp); rw [← hy]; simpa using this
      have hy' : (y : Int) < 64 := by omega
      obtain ⟨L, hL⟩ : ∃ L, (x :: r).length = L := ⟨_, rfl⟩
      rw [hL] at hl0 hl ⊢
      have hli : ¬ (L : Int) = 0 := by omega
      have hlp : (0 : Int) < (L : Int) := by omega
      have hdi : ¬ (d : Int) = 0 := by omega
      clear hcell hBa hy hx hL h
      go_enter Try.func25, Try.ntmps25
      go_upto_region 1 with fail
      rw [← HW.out]
      go_wp2_with fail
      obtain ⟨W4, hW4⟩ : ∃ W4, W4 = (((Wa.setCell ⟨N, 0, none⟩ (.int .i64 0)).setCell ⟨N, 1, none⟩ (.int .i64 0)).setCell ⟨N, 2, none⟩ (.string ⟨#[]⟩)).setCell ⟨N, 3, none⟩ (.slice none 0 0) := ⟨_, rfl⟩
      rw [← hW4]
      obtain ⟨⟨k0, k1, k2, k3⟩, hp⟩ := HF.out W4 hW4
      clear hW4
      exact bodyPost_ret (v := .tuple #[.agg #[.int .i64 0, .int .i64 0, .string ⟨#[]⟩, .slice none 0 0], .int .i64 0]) (by simp [results, Try.results25, go_sem, k0, k1, k2, k3]) rfl hp

theorem rread_made {w w2 : World} {N : Nat} {b : List UInt8} {x : Option (T × List UInt8)} {r : List UInt8} {a i q : Int} {sb : ByteArray} {A : Option Addr} {n c : Nat} {s : List UInt8} {l : List T} {y0 y1 y2 y3 : Value}
    (hx : x = some (.node a i s l, r)) (hq : q = ((b.length - r.length : Nat) : Int)) (hnl : l.length = n) (hs : sb.data.toList = s) (hk : I64 a) (hi : I64 i) (h1 : s.length ≤ 9223372036854775807) (h2 : l.length ≤ 9223372036854775807)
    (hA : ListAt w2 (fun b => N < b ∧ b < w2.heap.size) A l) (hA0 : A = none → c = 0) (hN : w.heap.size = N) (hb : Below w.heap.size w w2)
    (e0 : w2.cell? ⟨N, 0, none⟩ = some y0) (e1 : w2.cell? ⟨N, 1, none⟩ = some y1) (e2 : w2.cell? ⟨N, 2, none⟩ = some y2) (e3 : w2.cell? ⟨N, 3, none⟩ = some y3) :
    ∀ W4, W4 = (((w2.setCell ⟨N, 0, none⟩ (.int .i64 a)).setCell ⟨N, 1, none⟩ (.int .i64 i)).setCell ⟨N, 2, none⟩ (.string sb)).setCell ⟨N, 3, none⟩ (.slice A n c) →
      (W4.cell? ⟨N, 0, none⟩ = some (.int .i64 a) ∧ W4.cell? ⟨N, 1, none⟩ = some (.int .i64 i) ∧ W4.cell? ⟨N, 2, none⟩ = some (.string sb) ∧ W4.cell? ⟨N, 3, none⟩ = some (.slice A n c)) ∧
      RReadR w b x (.returned (.tuple #[.agg #[.int .i64 a, .int .i64 i, .string sb, .slice A n c], .int .i64 q])) W4 := by
  intro W4 h
  refine ⟨set4_cells e0 e1 e2 e3 _ _ _ _ h, ?_⟩
  subst h hx hq hnl
  refine ⟨below_set4 hb (by omega) _ _ _ _, _, _, _, _, _, _, rfl, Lies.mk hs hk hi h1 h2 ?_ hA0⟩
  refine (hA.set4 (fun b hb => by omega) _ _ _ _).map (fun b hb => ?_) (fun _ _ _ _ h => h)
  refine ⟨by omega, ?_⟩
  simpa using hb.2
theorem rd_low {d : Nat} {x : UInt8} {r : List UInt8} (h : x.toNat < 64) : rd d (x :: r) = none := by
  have h0 : x.toNat / 64 = 0 := by omega
  cases d with
  | zero => rfl
  | succ e =>
    unfold rd
    cases hh : rdHead (x :: r) with
    | none => rfl
    | some p =>
      obtain ⟨k, n, q⟩ := p
      have hk : k = 0 := by
        simp only [rdHead] at hh
        repeat' split at hh
        all_goals first | (cases hh; done) | (simp only [Option.some.injEq, Prod.mk.injEq] at hh; obtain ⟨hk, _⟩ := hh; subst hk; first | exact h0 | omega)
      subst hk
      simp
theorem rd_k1 {e n : Nat} {l r : List UInt8} (h : rdHead l = some (1, n, r)) : rd (e + 1) l = some (.node 1 (intg n) [] [], r) := by
  unfold rd; rw [h]; rfl
theorem rd_k2f {e n : Nat} {l r : List UInt8} (h : rdHead l = some (2, n, r)) (hn : r.length < n) : rd (e + 1) l = none := by
  unfold rd; rw [h]; simp [hn]
theorem rd_k2 {e n : Nat} {l r : List UInt8} (h : rdHead l = some (2, n, r)) (hn : ¬ r.length < n) : rd (e + 1) l = some (.node 2 0 (r.take n) [], r.drop n) := by
  unfold rd; rw [h]; simp [hn]
theorem rd_k3 {e n : Nat} {l r : List UInt8} (h : rdHead l = some (3, n, r)) : rd (e + 1) l = match rdN (rd e) n r with
        | none => none
        | some (l, q) => some (.node 3 0 [] l, q) := by
  conv => lhs; unfold rd
  rw [h]; simp; rfl
/-- a box of four cells -/
structure Box4 (W : World) (X : Nat) (v0 v1 v2 v3 : Value) : Prop where
  c0 : W.cell? ⟨X, 0, none⟩ = some v0
  c1 : W.cell? ⟨X, 1, none⟩ = some v1
  c2 : W.cell? ⟨X, 2, none⟩ = some v2
  c3 : W.cell? ⟨X, 3, none⟩ = some v3
  free : ∀ j, W.frozen? ⟨X, j, none⟩ = false
theorem off_ne {B p q : Nat} (h : p ≠ q) : (⟨B, p, none⟩ : Addr) ≠ ⟨B, q, none⟩ := fun e => h (by injection e)
theorem Box4.set1 {W : World} {X : Nat} {v0 v1 v2 v3 : Value} (h : Box4 W X v0 v1 v2 v3) (u : Value) : Box4 (W.setCell ⟨X, 1, none⟩ u) X v0 u v2 v3 :=
  ⟨(World.cell?_setCell_other _ _ _ _ (off_ne (by omega))).trans h.c0, World.cell?_setCell_same _ _ _ h.c1, (World.cell?_setCell_other _ _ _ _ (off_ne (by omega))).trans h.c2, (World.cell?_setCell_other _ _ _ _ (off_ne (by omega))).trans h.c3,
    fun j => by rw [World.frozen?_setCell]; exact h.free j⟩
theorem Box4.set2 {W : World} {X : Nat} {v0 v1 v2 v3 : Value} (h : Box4 W X v0 v1 v2 v3) (u : Value) : Box4 (W.setCell ⟨X, 2, none⟩ u) X v0 v1 u v3 :=
  ⟨(World.cell?_setCell_other _ _ _ _ (off_ne (by omega))).trans h.c0, (World.cell?_setCell_other _ _ _ _ (off_ne (by omega))).trans h.c1, World.cell?_setCell_same _ _ _ h.c2, (World.cell?_setCell_other _ _ _ _ (off_ne (by omega))).trans h.c3,
    fun j => by rw [World.frozen?_setCell]; exact h.free j⟩
theorem Box4.other {W : World} {N X j : Nat} {v0 v1 v2 v3 : Value} (h : Box4 W N v0 v1 v2 v3) (hne : N ≠ X) (u : Value) : Box4 (W.setCell ⟨X, j, none⟩ u) N v0 v1 v2 v3 := by
  have ne : ∀ i, (⟨X, j, none⟩ : Addr) ≠ ⟨N, i, none⟩ := fun i e => hne (by injection e with e1; exact e1.symm)
  exact ⟨(World.cell?_setCell_other _ _ _ _ (ne 0)).trans h.c0, (World.cell?_setCell_other _ _ _ _ (ne 1)).trans h.c1, (World.cell?_setCell_other _ _ _ _ (ne 2)).trans h.c2, (World.cell?_setCell_other _ _ _ _ (ne 3)).trans h.c3,
    fun q => by rw [World.frozen?_setCell]; exact h.free q⟩
theorem Box4.go {W W' : World} {X n : Nat} {v0 v1 v2 v3 : Value} (h : Box4 W X v0 v1 v2 v3) (hb : Below n W W') (hX : X < n) : Box4 W' X v0 v1 v2 v3 :=
  ⟨old_cell hb h.c0 hX, old_cell hb h.c1 hX, old_cell hb h.c2 hX, old_cell hb h.c3 hX, fun j => (hb.frozen (p := ⟨X, j, none⟩) hX).trans (h.free j)⟩
theorem OutS.box {W1 w : World} {X : Nat} {ty : TypeId} {k i : Int} {sb : ByteArray} {v : Value} {l : List T} (h : OutS W1 w X ty k i sb v l) : Box4 w X (.int .i64 k) (.int .i64 i) (.string sb) v := ⟨h.c0, h.c1, h.c2, h.c3, h.free⟩
theorem BytAt.mono {w : World} {n0 n1 : Nat} {A : Option Addr} {l : List UInt8} (h : BytAt w n0 A l) (hn : n0 ≤ n1) : BytAt w n1 A l := by
  rcases h with h | ⟨g, off, h1, h2, h3⟩
  · exact .inl h
  · exact .inr ⟨g, off, h1, Nat.lt_of_lt_of_le h2 hn, h3⟩
theorem rd_nil (e : Nat) : rd e [] = none := by cases e <;> rfl
end Go.Proofs.Ytiababmfalnflaa.Cod
