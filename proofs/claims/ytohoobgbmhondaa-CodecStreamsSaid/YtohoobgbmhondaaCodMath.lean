/- Values of package codec as trees, their numbers, heads and encodings: plain mathematics. -/
namespace Go.Proofs.Ytohoobgbmhondaa.Cod

inductive T where
  | node (k i : Int) (s : List UInt8) (l : List T)

mutual
def szT : T → Nat
  | .node _ _ _ l => 1 + szL l
def szL : List T → Nat
  | [] => 0
  | t :: r => szT t + szL r
end
mutual
def depT : T → Nat
  | .node k _ _ l => if k = 3 then depL l + 1 else 1
def depL : List T → Nat
  | [] => 0
  | t :: r => max (depT t) (depL r)
end
/-- a value's own fields -/
def ownB (k i : Int) (s : List UInt8) (n : Nat) : Bool :=
  if k = 1 then s.isEmpty && n == 0 else if k = 2 then i == 0 && n == 0 else if k = 3 then i == 0 && s.isEmpty else false
mutual
def propT : T → Bool
  | .node k i s l => ownB k i s l.length && propL l
def propL : List T → Bool
  | [] => true
  | t :: r => propT t && propL r
end
mutual
/-- valid and at most that deep -/
def valT : Nat → T → Bool
  | d, .node k i s l => (decide (1 ≤ d) && ownB k i s l.length) && valL (d - 1) l
def valL : Nat → List T → Bool
  | _, [] => true
  | d, t :: r => valT d t && valL d r
end
mutual
def eqT : T → T → Bool
  | .node k i s l, .node k' i' s' l' => (decide (k = k') && decide (i = i') && decide (s = s') && decide (l.length = l'.length)) && eqL l l'
def eqL : List T → List T → Bool
  | [], _ => true
  | _ :: _, [] => true
  | t :: r, t' :: r' => eqT t t' && eqL r r'
end
mutual
/-- all texts have at most 5000 bytes -/
def shT : T → Bool
  | .node _ _ s l => shL l && decide (s.length ≤ 5000)
def shL : List T → Bool
  | [] => true
  | t :: r => shT t && shL r
end

theorem szT_pos (t : T) : 1 ≤ szT t := by cases t; simp [szT]
theorem szL_append (a b : List T) : szL (a ++ b) = szL a + szL b := by
  induction a with
  | nil => simp [szL]
  | cons x a ih => simp [szL, ih]; omega
theorem szL_get {l : List T} {j : Nat} (h : j < l.length) : szT l[j] ≤ szL l := by
  induction l generalizing j with
  | nil => simp at h
  | cons x a ih =>
    cases j with
    | zero => simp [szL]
    | succ j => have := ih (j := j) (by simpa using h); simp [szL]; omega
theorem szL_take (l : List T) (j : Nat) : szL (l.take j) ≤ szL l := by
  have h : szL l = szL (l.take j) + szL (l.drop j) := by rw [← szL_append, List.take_append_drop]
  omega
theorem szL_len (l : List T) : l.length ≤ szL l := by
  induction l with
  | nil => simp [szL]
  | cons x a ih => have := szT_pos x; simp [szL]; omega
mutual
theorem dep_sz : (t : T) → depT t ≤ szT t
  | .node k i s l => by
    have := depL_sz l
    simp only [depT, szT]
    split <;> omega
theorem depL_sz : (l : List T) → depL l ≤ szL l
  | [] => by simp [depL]
  | t :: r => by
    have := dep_sz t
    have := depL_sz r
    simp only [depL, szL]
    omega
end
mutual
theorem eq_refl : (t : T) → eqT t t = true
  | .node k i s l => by simp [eqT, eqL_refl l]
theorem eqL_refl : (l : List T) → eqL l l = true
  | [] => by simp [eqL]
  | t :: r => by simp [eqL, eq_refl t, eqL_refl r]
end
mutual
theorem eq_of : (t u : T) → eqT t u = true → t = u
  | .node k i s l, .node k' i' s' l', h => by
    simp only [eqT, Bool.and_eq_true, decide_eq_true_eq] at h
    obtain ⟨⟨⟨⟨h1, h2⟩, h3⟩, h4⟩, h5⟩ := h
    rw [h1, h2, h3, eqL_of l l' h4 h5]
theorem eqL_of : (l m : List T) → l.length = m.length → eqL l m = true → l = m
  | [], [], _, _ => rfl
  | [], _ :: _, h, _ => by simp at h
  | _ :: _, [], h, _ => by simp at h
  | t :: r, u :: q, h, e => by
    simp only [eqL, Bool.and_eq_true] at e
    rw [eq_of t u e.1, eqL_of r q (by simpa using h) e.2]
end
/-- validity within a depth is the fields' own and the depth -/
theorem own_leaf {k i : Int} {s : List UInt8} {l : List T} (h : ownB k i s l.length = true) (hk : k ≠ 3) : l = [] := by
  unfold ownB at h
  split at h
  · simp at h; exact h.2
  · split at h
    · simp at h; exact h.2
    · cases h
mutual
theorem val_iff : (d : Nat) → (t : T) → (valT d t = true ↔ propT t = true ∧ depT t ≤ d)
  | d, .node k i s l => by
    simp only [valT, propT, depT, Bool.and_eq_true, decide_eq_true_eq]
    rw [valL_iff (d - 1) l]
    by_cases ho : ownB k i s l.length = true
    · by_cases hk : k = 3
      · rw [if_pos hk]
        constructor
        · rintro ⟨⟨h1, _⟩, h2, h3⟩; exact ⟨⟨ho, h2⟩, by omega⟩
        · rintro ⟨⟨_, h2⟩, h3⟩; exact ⟨⟨by omega, ho⟩, h2, by omega⟩
      · have hl := own_leaf ho hk
        subst hl
        rw [if_neg hk]
        constructor
        · rintro ⟨⟨h1, _⟩, h2, h3⟩; exact ⟨⟨ho, h2⟩, h1⟩
        · rintro ⟨⟨_, h2⟩, h3⟩; exact ⟨⟨h3, ho⟩, h2, by simp [depL]⟩
    · constructor
      · rintro ⟨⟨_, h⟩, _⟩; exact absurd h ho
      · rintro ⟨⟨h, _⟩, _⟩; exact absurd h ho
theorem valL_iff : (d : Nat) → (l : List T) → (valL d l = true ↔ propL l = true ∧ depL l ≤ d)
  | d, [] => by simp [valL, propL, depL]
  | d, t :: r => by
    simp only [valL, propL, depL, Bool.and_eq_true]
    rw [val_iff d t, valL_iff d r]
    constructor
    · rintro ⟨⟨h1, h2⟩, h3, h4⟩; exact ⟨⟨h1, h3⟩, by omega⟩
    · rintro ⟨⟨h1, h3⟩, h⟩; exact ⟨⟨h1, by omega⟩, h3, by omega⟩
end
theorem val_eq (d : Nat) (t : T) : valT d t = (propT t && decide (depT t ≤ d)) := by
  rw [Bool.eq_iff_iff, val_iff]; simp

/-! one element more -/
theorem shL_drop {l : List T} {j : Nat} (h : j < l.length) : shL (l.drop j) = (shT l[j] && shL (l.drop (j + 1))) := by rw [List.drop_eq_getElem_cons h, shL]
theorem propL_drop {l : List T} {j : Nat} (h : j < l.length) : propL (l.drop j) = (propT l[j] && propL (l.drop (j + 1))) := by rw [List.drop_eq_getElem_cons h, propL]
theorem valL_drop {d : Nat} {l : List T} {j : Nat} (h : j < l.length) : valL d (l.drop j) = (valT d l[j] && valL d (l.drop (j + 1))) := by rw [List.drop_eq_getElem_cons h, valL]
theorem depL_drop {l : List T} {j : Nat} (h : j < l.length) : depL (l.drop j) = max (depT l[j]) (depL (l.drop (j + 1))) := by rw [List.drop_eq_getElem_cons h, depL]
theorem eqL_drop {l m : List T} {j : Nat} (h : j < l.length) (h' : j < m.length) : eqL (l.drop j) (m.drop j) = (eqT l[j] m[j] && eqL (l.drop (j + 1)) (m.drop (j + 1))) := by
  rw [List.drop_eq_getElem_cons h, List.drop_eq_getElem_cons h', eqL]
theorem shL_end {l : List T} {j : Nat} (h : ¬ j < l.length) : shL (l.drop j) = true := by rw [List.drop_eq_nil_of_le (by omega), shL]
theorem propL_end {l : List T} {j : Nat} (h : ¬ j < l.length) : propL (l.drop j) = true := by rw [List.drop_eq_nil_of_le (by omega), propL]
theorem valL_end {d : Nat} {l : List T} {j : Nat} (h : ¬ j < l.length) : valL d (l.drop j) = true := by rw [List.drop_eq_nil_of_le (by omega), valL]
theorem depL_end {l : List T} {j : Nat} (h : ¬ j < l.length) : depL (l.drop j) = 0 := by rw [List.drop_eq_nil_of_le (by omega), depL]
theorem eqL_end {l m : List T} {j : Nat} (h : ¬ j < l.length) : eqL (l.drop j) (m.drop j) = true := by rw [List.drop_eq_nil_of_le (by omega), eqL]

theorem shL_get {l : List T} (h : shL l = true) {j : Nat} (hj : j < l.length) : shT l[j] = true := by
  induction l generalizing j with
  | nil => simp at hj
  | cons x r ih =>
    simp only [shL, Bool.and_eq_true] at h
    cases j with
    | zero => simpa using h.1
    | succ j => simpa using ih h.2 (j := j) (by simpa using hj)
theorem propL_get {l : List T} (h : propL l = true) {j : Nat} (hj : j < l.length) : propT l[j] = true := by
  induction l generalizing j with
  | nil => simp at hj
  | cons x r ih =>
    simp only [propL, Bool.and_eq_true] at h
    cases j with
    | zero => simpa using h.1
    | succ j => simpa using ih h.2 (j := j) (by simpa using hj)
/-! numbers and heads -/
def numT : T → Nat
  | .node k i s l => if k = 2 then s.length else if k = 3 then l.length else if i < 0 then 2 * (-(i + 1)).toNat + 1 else 2 * i.toNat
def be : Nat → Nat → List UInt8
  | 0, _ => []
  | k + 1, n => be k (n / 256) ++ [UInt8.ofNat (n % 256)]
/-- the least number of bytes of a number -/
def nb (n : Nat) : Nat := if h : n = 0 then 0 else nb (n / 256) + 1
termination_by n
decreasing_by exact Nat.div_lt_self (by omega) (by omega)
def headL (k n : Nat) : List UInt8 := if n < 56 then [UInt8.ofNat (64 * k + n)] else UInt8.ofNat (64 * k + 55 + nb n) :: be (nb n) n
mutual
def enc : T → List UInt8
  | .node k i s l => headL k.toNat (numT (.node k i s l)) ++ s ++ encs l
def encs : List T → List UInt8
  | [] => []
  | t :: r => enc t ++ encs r
end
theorem encs_append (a b : List T) : encs (a ++ b) = encs a ++ encs b := by
  induction a with
  | nil => simp [encs]
  | cons x a ih => simp [encs, ih]
theorem encs_drop {l : List T} {j : Nat} (h : j < l.length) : encs (l.drop j) = enc l[j] ++ encs (l.drop (j + 1)) := by rw [List.drop_eq_getElem_cons h, encs]
theorem encs_end {l : List T} {j : Nat} (h : ¬ j < l.length) : encs (l.drop j) = [] := by rw [List.drop_eq_nil_of_le (by omega), encs]
theorem encs_take {l : List T} {j : Nat} (h : j < l.length) : encs (l.take (j + 1)) = encs (l.take j) ++ enc l[j] := by
  rw [List.take_succ_eq_append_getElem h, encs_append]; simp [encs]
theorem encs_take_le (l : List T) (j : Nat) : (encs (l.take j)).length ≤ (encs l).length := by
  have h : encs l = encs (l.take j) ++ encs (l.drop j) := by rw [← encs_append, List.take_append_drop]
  rw [h, List.length_append]; omega
theorem be_len (k n : Nat) : (be k n).length = k := by
  induction k generalizing n with
  | zero => rfl
  | succ k ih => simp [be, ih]
theorem nb_zero : nb 0 = 0 := by unfold nb; simp
theorem nb_pos {n : Nat} (h : n ≠ 0) : nb n = nb (n / 256) + 1 := by rw [nb.eq_def]; simp [h]
theorem lt_nb (n : Nat) : n < 256 ^ nb n := by
  induction n using Nat.strongRecOn with
  | _ n ih =>
    by_cases h : n = 0
    · subst h; simp [nb_zero]
    · rw [nb_pos h, Nat.pow_succ]
      have := ih (n / 256) (Nat.div_lt_self (by omega) (by omega))
      omega
theorem nb_le {n k : Nat} (h : n < 256 ^ k) : nb n ≤ k := by
  induction k generalizing n with
  | zero => have : n = 0 := by simpa using h
            subst this; simp [nb_zero]
  | succ k ih =>
    by_cases h0 : n = 0
    · subst h0; simp [nb_zero]
    · rw [nb_pos h0]
      have := ih (n := n / 256) (by rw [Nat.pow_succ] at h; omega)
      omega
theorem nb8 {n : Nat} (h : n < 18446744073709551616) : nb n ≤ 8 := nb_le (by simpa using h)
theorem nb_one {n : Nat} (h : n ≠ 0) : 1 ≤ nb n := by rw [nb_pos h]; omega
theorem nb_mono {m n : Nat} (h : m ≤ n) : nb m ≤ nb n := nb_le (Nat.lt_of_le_of_lt h (lt_nb n))

/-! reading -/
def val : List UInt8 → Nat := fun l => l.foldl (fun a c => a * 256 + c.toNat) 0
/-- what a head says, and what is left -/
def rdHead : List UInt8 → Option (Nat × Nat × List UInt8)
  | [] => none
  | c :: r =>
    if c.toNat % 64 < 56 then some (c.toNat / 64, c.toNat % 64, r)
    else if r.length < c.toNat % 64 - 55 then none
    else if val (r.take (c.toNat % 64 - 55)) < 56 ∨ r.head? = some 0 then none
    else some (c.toNat / 64, val (r.take (c.toNat % 64 - 55)), r.drop (c.toNat % 64 - 55))
/-- the integer with a number -/
def intg (n : Nat) : Int := if n % 2 = 1 then -((n / 2 : Nat) : Int) - 1 else ((n / 2 : Nat) : Int)
def rdN (f : List UInt8 → Option (T × List UInt8)) : Nat → List UInt8 → Option (List T × List UInt8)
  | 0, b => some ([], b)
  | n + 1, b => match f b with
    | none => none
    | some (x, r) => match rdN f n r with
      | none => none
      | some (l, q) => some (x :: l, q)
def rd : Nat → List UInt8 → Option (T × List UInt8)
  | 0, _ => none
  | d + 1, b => match rdHead b with
    | none => none
    | some (k, n, r) =>
      if k = 1 then some (.node 1 (intg n) [] [], r)
      else if k = 2 then (if r.length < n then none else some (.node 2 0 (r.take n) [], r.drop n))
      else if k = 3 then (match rdN (rd d) n r with
        | none => none
        | some (l, q) => some (.node 3 0 [] l, q))
      else none

theorem val_append (a b : List UInt8) : val (a ++ b) = val a * 256 ^ b.length + val b := by
  unfold val
  rw [List.foldl_append]
  generalize a.foldl (fun a c => a * 256 + c.toNat) 0 = x
  induction b generalizing x with
  | nil => simp
  | cons c b ih =>
    simp only [List.foldl_cons, List.length_cons]
    rw [ih, ih (0 * 256 + c.toNat), Nat.pow_succ]
    simp only [Nat.add_mul, Nat.zero_mul, Nat.zero_add, Nat.mul_assoc, Nat.mul_comm (256 ^ b.length) 256]
    omega
theorem val_one (c : UInt8) : val [c] = c.toNat := by simp [val]
theorem snoc_ind {P : List UInt8 → Prop} (h0 : P []) (h1 : ∀ l c, P l → P (l ++ [c])) (l : List UInt8) : P l := by
  have : ∀ r : List UInt8, P r.reverse := by
    intro r
    induction r with
    | nil => simpa using h0
    | cons c r ih => simpa using h1 _ c ih
  simpa using this l.reverse
theorem val_lt (l : List UInt8) : val l < 256 ^ l.length := by
  induction l using snoc_ind with
  | h0 => simp [val]
  | h1 l c ih =>
    rw [val_append, val_one, List.length_append, List.length_singleton, Nat.pow_succ]
    have := c.toNat_lt
    omega
theorem val_be {k n : Nat} (h : n < 256 ^ k) : val (be k n) = n := by
  induction k generalizing n with
  | zero => have : n = 0 := by simpa using h
            subst this; rfl
  | succ k ih =>
    rw [be, val_append, ih (by rw [Nat.pow_succ] at h; omega), val_one, UInt8.toNat_ofNat']
    simp only [List.length_singleton]
    omega
theorem be_val (l : List UInt8) : be l.length (val l) = l := by
  induction l using snoc_ind with
  | h0 => rfl
  | h1 l c ih =>
    have hc := c.toNat_lt
    rw [List.length_append, List.length_singleton, be, val_append, val_one]
    simp only [List.length_singleton, Nat.pow_one]
    have h1 : (val l * 256 + c.toNat) / 256 = val l := by omega
    have h2 : (val l * 256 + c.toNat) % 256 = c.toNat := by omega
    rw [h1, h2, ih]
    simp
/-- a number of which no digit is left out in front has as many bytes as it is long -/
theorem nb_val {c : UInt8} {l : List UInt8} (h : c ≠ 0) : nb (val (c :: l)) = l.length + 1 := by
  have hv : val (c :: l) = c.toNat * 256 ^ l.length + val l := by rw [show c :: l = [c] ++ l from rfl, val_append, val_one]
  have hc : 1 ≤ c.toNat := by
    rcases Nat.eq_zero_or_pos c.toNat with h0 | h0
    · exact absurd (UInt8.toNat_inj.1 (by simpa using h0)) h
    · exact h0
  have h1 : nb (val (c :: l)) ≤ l.length + 1 := nb_le (by have := val_lt (c :: l); simpa using this)
  have h2 := lt_nb (val (c :: l))
  rcases Nat.lt_or_ge (nb (val (c :: l))) (l.length + 1) with hlt | hge
  · have h3 : 256 ^ nb (val (c :: l)) ≤ 256 ^ l.length := Nat.pow_le_pow_right (by omega) (by omega)
    have h4 : 256 ^ l.length ≤ c.toNat * 256 ^ l.length := Nat.le_mul_of_pos_left _ hc
    omega
  · omega
theorem be_head {n : Nat} (h : n ≠ 0) : (be (nb n) n).head? ≠ some 0 := by
  intro h0
  have hl := be_len (nb n) n
  have hv := val_be (lt_nb n)
  obtain ⟨m, hm⟩ : ∃ m, nb n = m + 1 := ⟨nb n - 1, by have := nb_one h; omega⟩
  match hb : be (nb n) n with
  | [] => rw [hb, hm] at hl; simp at hl
  | c :: r =>
    rw [hb] at h0 hl hv
    simp at h0
    subst h0
    have : val ((0 : UInt8) :: r) = val r := by rw [show (0 : UInt8) :: r = [0] ++ r from rfl, val_append, val_one]; simp
    rw [this] at hv
    have h2 := val_lt r
    have h3 := nb_le (n := n) (k := r.length) (by omega)
    simp at hl
    omega
/-- a head is read back -/
theorem rd_head {k n : Nat} (hk : k ≤ 3) (hn : n < 18446744073709551616) (r : List UInt8) : rdHead (headL k n ++ r) = some (k, n, r) := by
  unfold headL
  by_cases h : n < 56
  · rw [if_pos h]
    have e : (UInt8.ofNat (64 * k + n)).toNat = 64 * k + n := by rw [UInt8.toNat_ofNat']; omega
    have e1 : (64 * k + n) % 64 = n := by omega
    have e2 : (64 * k + n) / 64 = k := by omega
    simp only [List.cons_append, List.nil_append, rdHead, e, e1, e2, if_pos h]
  · rw [if_neg h]
    have h8 := nb8 hn
    have h1 := nb_one (n := n) (by omega)
    have e : (UInt8.ofNat (64 * k + 55 + nb n)).toNat = 64 * k + 55 + nb n := by rw [UInt8.toNat_ofNat']; omega
    have e1 : (64 * k + 55 + nb n) % 64 = 55 + nb n := by omega
    have e2 : (64 * k + 55 + nb n) / 64 = k := by omega
    have e3 : 55 + nb n - 55 = nb n := by omega
    have ht : (be (nb n) n ++ r).take (nb n) = be (nb n) n := List.take_left' (be_len _ _)
    have hd : (be (nb n) n ++ r).drop (nb n) = r := List.drop_left' (be_len _ _)
    have hh : (be (nb n) n ++ r).head? ≠ some 0 := by
      have h0 := be_head (n := n) (by omega)
      have hl := be_len (nb n) n
      match hb : be (nb n) n with
      | [] => rw [hb] at hl; simp at hl; omega
      | c :: q => rw [hb] at h0; simpa using h0
    simp only [List.cons_append, rdHead, e, e1, e2, e3]
    rw [if_neg (by omega), if_neg (by rw [List.length_append, be_len]; omega), ht, val_be (lt_nb n), if_neg (by rintro (h' | h'); exact h h'; exact hh h'), hd]
/-- what is read as a head is the head -/
theorem head_rd {b r : List UInt8} {k n : Nat} (h : rdHead b = some (k, n, r)) : b = headL k n ++ r ∧ k ≤ 3 ∧ n < 18446744073709551616 := by
  match b with
  | [] => simp [rdHead] at h
  | c :: q =>
    have hc := c.toNat_lt
    simp only [rdHead] at h
    split at h
    · rename_i h1
      simp only [Option.some.injEq, Prod.mk.injEq] at h
      obtain ⟨rfl, rfl, rfl⟩ := h
      refine ⟨?_, by omega, by omega⟩
      unfold headL
      rw [if_pos h1]
      have : 64 * (c.toNat / 64) + c.toNat % 64 = c.toNat := by omega
      rw [this]; simp
    · rename_i h1
      split at h
      · cases h
      · rename_i h2
        split at h
        · cases h
        · rename_i h3
          simp only [Option.some.injEq, Prod.mk.injEq] at h
          obtain ⟨rfl, rfl, rfl⟩ := h
          have hl : (q.take (c.toNat % 64 - 55)).length = c.toNat % 64 - 55 := by rw [List.length_take]; omega
          have hv := val_lt (q.take (c.toNat % 64 - 55))
          rw [hl] at hv
          have hp : 256 ^ (c.toNat % 64 - 55) ≤ 256 ^ 8 := Nat.pow_le_pow_right (by omega) (by omega)
          have hp8 : (256 : Nat) ^ 8 = 18446744073709551616 := rfl
          refine ⟨?_, by omega, by omega⟩
          have hnb : nb (val (q.take (c.toNat % 64 - 55))) = c.toNat % 64 - 55 := by
            match q, hl, h3 with
            | [], hl, _ => simp at hl; omega
            | x :: q, hl, h3 =>
              obtain ⟨m, hm⟩ : ∃ m, c.toNat % 64 - 55 = m + 1 := ⟨c.toNat % 64 - 55 - 1, by omega⟩
              rw [hm] at hl ⊢
              rw [List.take_succ_cons] at hl ⊢
              rw [nb_val (fun e => h3 (.inr (by simp [e])))]
              simpa using hl
          unfold headL
          rw [if_neg (fun e => h3 (.inl e)), hnb]
          have := be_val (q.take (c.toNat % 64 - 55))
          rw [hl] at this
          rw [this]
          have e : 64 * (c.toNat / 64) + 55 + (c.toNat % 64 - 55) = c.toNat := by omega
          rw [e]
          simp
end Go.Proofs.Ytohoobgbmhondaa.Cod
