/- Plain facts: the laws of arithmetic where results have representations. -/
import Derived.Test.YtggiljlndenjoaaDoorRatMath
namespace Go.Proofs.YtggiljlndenjoaaDoor.RatM
/-- op of the laws: errors stay -/
def opZ (kind : Int) (r s : Res) : Res :=
  if r.2.2 = 0 ∧ s.2.2 = 0 then (if kind = 0 then addZ r.1 r.2.1 s.1 s.2.1 else if kind = 1 then subZ r.1 r.2.1 s.1 s.2.1 else if kind = 2 then mulZ r.1 r.2.1 s.1 s.2.1 else divZ r.1 r.2.1 s.1 s.2.1) else (0, 0, 2)
def agreeB (r s : Res) : Bool := decide (r.2.2 ≠ 0 ∨ s.2.2 ≠ 0 ∨ (r.1 = s.1 ∧ r.2.1 = s.2.1))
/-- the operation on rational numbers -/
def ratOp (kind : Int) (p q : Rat) : Rat := if kind = 0 then p + q else p * q

theorem op_ok {k : Int} (hk : k = 0 ∨ k = 2) {r s : Res} (hr : r.2.2 = 0) (hs : s.2.2 = 0) (vr : validR r.1 r.2.1 = true) (vs : validR s.1 s.2.1 = true) :
    opZ k r s = repr (ratOp k (Rat.divInt r.1 r.2.1) (Rat.divInt s.1 s.2.1)) := by
  rw [opZ, if_pos ⟨hr, hs⟩]
  rcases hk with rfl | rfl
  · rw [if_pos rfl, addZ, if_pos ⟨vr, vs⟩]; rfl
  · rw [if_neg (by decide), if_neg (by decide), if_pos rfl, mulZ, if_pos ⟨vr, vs⟩]; rfl
theorem op_no1 {k : Int} {r s : Res} (hr : r.2.2 ≠ 0) : opZ k r s = (0, 0, 2) := by rw [opZ, if_neg (fun h => hr h.1)]
theorem op_no2 {k : Int} {r s : Res} (hr : s.2.2 ≠ 0) : opZ k r s = (0, 0, 2) := by rw [opZ, if_neg (fun h => hr h.2)]
theorem ratOp_comm (k : Int) (p q : Rat) : ratOp k p q = ratOp k q p := by unfold ratOp; split; exact Rat.add_comm _ _; exact Rat.mul_comm _ _
theorem ratOp_assoc (k : Int) (p q r : Rat) : ratOp k (ratOp k p q) r = ratOp k p (ratOp k q r) := by unfold ratOp; split; exact Rat.add_assoc _ _ _; exact Rat.mul_assoc _ _ _
theorem agree_of {r s : Res} (h : r.2.2 = 0 → s.2.2 = 0 → r.1 = s.1 ∧ r.2.1 = s.2.1) : agreeB r s = true := by
  refine decide_eq_true ?_
  by_cases hr : r.2.2 = 0
  · by_cases hs : s.2.2 = 0
    · exact .inr (.inr (h hr hs))
    · exact .inr (.inl hs)
  · exact .inl hr

theorem op_comm {k : Int} (hk : k = 0 ∨ k = 2) {x y : Res} (hx : x.2.2 = 0) (hy : y.2.2 = 0) (vx : validR x.1 x.2.1 = true) (vy : validR y.1 y.2.1 = true) : opZ k x y = opZ k y x := by
  rw [op_ok hk hx hy vx vy, op_ok hk hy hx vy vx, ratOp_comm]
theorem op_assoc {k : Int} (hk : k = 0 ∨ k = 2) {x y z : Res} (hx : x.2.2 = 0) (hy : y.2.2 = 0) (hz : z.2.2 = 0) (vx : validR x.1 x.2.1 = true) (vy : validR y.1 y.2.1 = true) (vz : validR z.1 z.2.1 = true) :
    agreeB (opZ k (opZ k x y) z) (opZ k x (opZ k y z)) = true := by
  refine agree_of fun h1 h2 => ?_
  by_cases ha : (opZ k x y).2.2 = 0
  · by_cases hc : (opZ k y z).2.2 = 0
    · have ea := op_ok hk hx hy vx vy
      have ec := op_ok hk hy hz vy vz
      have A := repr_ok (q := ratOp k (Rat.divInt x.1 x.2.1) (Rat.divInt y.1 y.2.1)) (by rw [← ea]; exact ha)
      have C := repr_ok (q := ratOp k (Rat.divInt y.1 y.2.1) (Rat.divInt z.1 z.2.1)) (by rw [← ec]; exact hc)
      rw [← ea] at A
      rw [← ec] at C
      have e : opZ k (opZ k x y) z = opZ k x (opZ k y z) := by
        rw [op_ok hk ha hz A.1 vz, op_ok hk hx hc vx C.1, A.2, C.2, ratOp_assoc]
      rw [e]; exact ⟨rfl, rfl⟩
    · rw [op_no2 hc] at h2; cases h2
  · rw [op_no1 ha] at h1; cases h1
theorem distrib_ {x y z : Res} (hx : x.2.2 = 0) (hy : y.2.2 = 0) (hz : z.2.2 = 0) (vx : validR x.1 x.2.1 = true) (vy : validR y.1 y.2.1 = true) (vz : validR z.1 z.2.1 = true) :
    agreeB (opZ 2 x (opZ 0 y z)) (opZ 0 (opZ 2 x y) (opZ 2 x z)) = true := by
  refine agree_of fun h1 h2 => ?_
  by_cases hs : (opZ 0 y z).2.2 = 0
  · by_cases hp : (opZ 2 x y).2.2 = 0
    · by_cases hq : (opZ 2 x z).2.2 = 0
      · have es := op_ok (.inl rfl) hy hz vy vz
        have ep := op_ok (.inr rfl) hx hy vx vy
        have eq := op_ok (.inr rfl) hx hz vx vz
        have S := repr_ok (by rw [← es]; exact hs)
        have P := repr_ok (by rw [← ep]; exact hp)
        have Q := repr_ok (by rw [← eq]; exact hq)
        rw [← es] at S
        rw [← ep] at P
        rw [← eq] at Q
        have e : opZ 2 x (opZ 0 y z) = opZ 0 (opZ 2 x y) (opZ 2 x z) := by
          rw [op_ok (.inr rfl) hx hs vx S.1, op_ok (.inl rfl) hp hq P.1 Q.1, S.2, P.2, Q.2]
          show repr (_ * (_ + _)) = repr (_ * _ + _ * _)
          rw [Rat.mul_add]
        rw [e]; exact ⟨rfl, rfl⟩
      · rw [op_no2 hq] at h2; cases h2
    · rw [op_no1 hp] at h2; cases h2
  · rw [op_no2 hs] at h1; cases h1

/-- a difference undoes a sum -/
theorem sub_undo {a b c d : Int} (h : validR a b = true) (k : validR c d = true) (e : (addZ a b c d).2.2 = 0) : subZ (addZ a b c d).1 (addZ a b c d).2.1 c d = (a, b, 0) := by
  have E : addZ a b c d = repr (Rat.divInt a b + Rat.divInt c d) := by rw [addZ, if_pos ⟨h, k⟩]
  rw [E] at e
  obtain ⟨v, q⟩ := repr_ok e
  rw [E, subZ, if_pos ⟨v, k⟩, q, Rat.add_sub_cancel, repr_val h]
theorem val_ne {c d : Int} (k : validR c d = true) (h : c ≠ 0) : Rat.divInt c d ≠ 0 := fun e => by
  have := val_num k
  rw [e] at this
  exact h this.symm
theorem div_undo {a b c d : Int} (h : validR a b = true) (k : validR c d = true) (hc : c ≠ 0) (e : (mulZ a b c d).2.2 = 0) : divZ (mulZ a b c d).1 (mulZ a b c d).2.1 c d = (a, b, 0) := by
  have E : mulZ a b c d = repr (Rat.divInt a b * Rat.divInt c d) := by rw [mulZ, if_pos ⟨h, k⟩]
  rw [E] at e
  obtain ⟨v, q⟩ := repr_ok e
  rw [E, divZ, if_pos ⟨v, k⟩, if_neg hc, q, Rat.mul_div_cancel (val_ne k hc), repr_val h]

/-- small fractions have representations -/
theorem repr_small {n d : Int} (hd : d ≠ 0) (h1 : n.natAbs ≤ 2147483647) (h2 : d.natAbs ≤ 2147483647) : (repr (Rat.divInt n d)).2.2 = 0 := by
  rw [repr_in hd (Nat.le_trans (Nat.div_le_self _ _) h1) (Nat.le_trans (Nat.div_le_self _ _) h2)]

/-! powers -/
def repB (q : Rat) : Bool := decide (q.num.natAbs ≤ 2147483647 ∧ q.den ≤ 2147483647)
theorem repr_of_rep {q : Rat} (h : repB q = true) : repr q = (q.num, (q.den : Int), 0) := by rw [repr, if_pos (of_decide_eq_true h)]
theorem repr_of_not {q : Rat} (h : repB q = false) : repr q = (0, 0, 2) := by rw [repr, if_neg (of_decide_eq_false h)]
theorem rep_iff (q : Rat) : (repr q).2.2 = 0 ↔ repB q = true := by
  cases h : repB q with
  | true => rw [repr_of_rep h]; simp
  | false => rw [repr_of_not h]; simp
theorem pow_big {b m n : Nat} (h : m ≤ n) (hb : 2147483647 < b ^ m) : 2147483647 < b ^ n := by
  rcases Nat.lt_or_ge b 2 with h2 | h2
  · exfalso
    have : b = 0 ∨ b = 1 := by omega
    rcases this with rfl | rfl
    · rcases Nat.eq_zero_or_pos m with rfl | hm
      · simp at hb
      · rw [Nat.zero_pow hm] at hb; omega
    · rw [Nat.one_pow] at hb; omega
  · exact Nat.lt_of_lt_of_le hb (Nat.pow_le_pow_right (by omega) h)
theorem rep_mono {q : Rat} {m n : Nat} (h : m ≤ n) (hn : repB (q ^ n) = true) : repB (q ^ m) = true := by
  unfold repB at *
  rw [Rat.num_pow, Rat.den_pow, Int.natAbs_pow] at *
  have := of_decide_eq_true hn
  refine decide_eq_true ⟨?_, ?_⟩
  · rcases Nat.lt_or_ge 2147483647 (q.num.natAbs ^ m) with h1 | h1
    · have := pow_big h h1; omega
    · exact h1
  · rcases Nat.lt_or_ge 2147483647 (q.den ^ m) with h1 | h1
    · have := pow_big h h1; omega
    · exact h1
theorem rep_mono_no {q : Rat} {m n : Nat} (h : m ≤ n) (hm : repB (q ^ m) = false) : repB (q ^ n) = false := by
  cases hn : repB (q ^ n) with
  | false => rfl
  | true => rw [rep_mono h hn] at hm; cases hm
def powN (a b : Int) (k : Nat) : Res := repr (Rat.divInt a b ^ k)
def powZ (a b n : Int) : Res := if validR a b = true then (if 0 ≤ n then powN a b n.toNat else if a = 0 then (0, 0, 10) else powN b a (-n).toNat) else (0, 0, 1)

end Go.Proofs.YtggiljlndenjoaaDoor.RatM
