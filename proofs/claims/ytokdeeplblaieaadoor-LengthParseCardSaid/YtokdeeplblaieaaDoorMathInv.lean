/- Plain facts: reading is the inverse of writing; the program's way and the reference's way of reading are the same. No program is named here but by the words of the text's definition. -/
import Derived.Test.YtokdeeplblaieaaDoorMathParse
import Derived.Test.YtokdeeplblaieaaDoorLenText
namespace Go.Proofs.YtokdeeplblaieaaDoor.Len

theorem numF_ge (l : List UInt8) : ∀ acc, acc * 10 ^ l.length ≤ numF acc l := by
  induction l with
  | nil => intro acc; rw [numF_nil]; simp
  | cons c r ih =>
    intro acc
    rw [numF_cons, List.length_cons, Nat.pow_succ]
    have := ih (acc * 10 + (c.toNat - 48))
    have h2 : acc * 10 * 10 ^ r.length ≤ (acc * 10 + (c.toNat - 48)) * 10 ^ r.length := Nat.mul_le_mul_right _ (by omega)
    have e : acc * (10 ^ r.length * 10) = acc * 10 * 10 ^ r.length := by rw [Nat.mul_assoc, Nat.mul_comm 10]
    omega
theorem numF_mono (l : List UInt8) {a b : Nat} (h : a ≤ b) : numF a l ≤ numF b l := by
  induction l generalizing a b with
  | nil => rw [numF_nil, numF_nil]; exact h
  | cons c r ih => rw [numF_cons, numF_cons]; exact ih (by omega)
theorem numF_self (l : List UInt8) (a : Nat) : a ≤ numF a l := by
  have h1 := numF_ge l a
  have h2 : a * 1 ≤ a * 10 ^ l.length := Nat.mul_le_mul_left _ (Nat.one_le_pow _ _ (by omega))
  omega

/-- Three digits. -/
theorem three (f : List UInt8) (h : f.length ≤ 3) : ∃ x y z, (f ++ [48, 48, 48]).take 3 = [x, y, z] := by
  match f, h with
  | [], _ => exact ⟨_, _, _, rfl⟩
  | [a], _ => exact ⟨_, _, _, rfl⟩
  | [a, b], _ => exact ⟨_, _, _, rfl⟩
  | [a, b, c], _ => exact ⟨_, _, _, rfl⟩
theorem three_digits {f : List UInt8} (h : f.length ≤ 3) (hf : f.all isD = true) : ((f ++ [48, 48, 48]).take 3).all isD = true := by
  have hz : isD 48 = true := by decide
  match f, h, hf with
  | [], _, _ => simp [hz]
  | [a], _, hf => simp at hf; simp [hz, hf]
  | [a, b], _, hf => simp at hf; simp [hz, hf]
  | [a, b, c], _, hf => simp at hf; simp [hf]
theorem long_big {d f : List UInt8} (hw : wholeOk d = true) (hf : f.length ≤ 3) (h : 7 < d.length) : 1073741824 < num (d ++ (f ++ [48, 48, 48]).take 3) := by
  obtain ⟨x, y, z, e⟩ := three f hf
  rw [e, num_three]
  cases d with
  | nil => simp at h
  | cons c r =>
    have hc : c ≠ 48 := fun ec => by
      subst ec
      have := whole_lead hw r rfl
      subst this
      simp at h
    have hd := whole_isD hw
    simp only [List.all_cons, Bool.and_eq_true] at hd
    have hc' : 48 ≤ c.toNat ∧ c.toNat ≤ 57 := by simpa [isD] using hd.1
    have hne : c.toNat ≠ 48 := fun ec => hc (UInt8.toNat_inj.1 ec)
    rw [num_eq, numF_cons]
    have h1 := numF_ge r (0 * 10 + (c.toNat - 48))
    have h2 : 10 ^ 7 ≤ 10 ^ r.length := Nat.pow_le_pow_right (by omega) (by simp at h; omega)
    have h3 : 1 * 10 ^ r.length ≤ (0 * 10 + (c.toNat - 48)) * 10 ^ r.length := Nat.mul_le_mul_right _ (by omega)
    generalize numF (0 * 10 + (c.toNat - 48)) r = k at *
    generalize 10 ^ r.length = m at *
    omega
theorem ref_fin {neg : Bool} {d f : List UInt8} (hw : wholeOk d = true) (hf : f.length ≤ 3) : refFin neg d f = finP neg d f := by
  unfold refFin
  by_cases h : 7 < d.length
  · have := long_big hw hf h
    rw [if_pos h, finP, if_neg (by omega)]
  · rw [if_neg h]
theorem rest_len {f : List UInt8} (h : restOk f = true) : f.length ≤ 3 := by
  unfold restOk at h; simp only [Bool.and_eq_true, decide_eq_true_eq] at h; exact h.1.2
theorem shape_len {l d : List UInt8} {neg : Bool} {fo : Option (List UInt8)} (h : Shape l neg d fo) : (fo.getD []).length ≤ 3 := by
  cases fo with
  | none => simp
  | some f => exact rest_len (h.rest f rfl)
/-- Both ways of reading are the same. -/
theorem ref_code (l : List UInt8) : refP l = codeP l := by
  by_cases h1 : refP l = (0, 3)
  · by_cases h2 : codeP l = (0, 3)
    · rw [h1, h2]
    · obtain ⟨neg, d, fo, hs⟩ := code_form h2
      rw [ref_shape hs, code_shape hs, ref_fin hs.whole (shape_len hs)]
  · obtain ⟨neg, d, fo, hs⟩ := ref_form h1
    rw [ref_shape hs, code_shape hs, ref_fin hs.whole (shape_len hs)]

/-! ### strconv.Atoi of digits -/
theorem parse_digits (l : List UInt8) (hd : l.all isD = true) : ∀ acc, acc < 18446744073709551616 → Lib.parseUint10 acc l = if numF acc l < 18446744073709551616 then .ok (numF acc l) else .range := by
  induction l with
  | nil => intro acc h; rw [Lib.parseUint10, numF_nil, if_pos h]
  | cons c r ih =>
    intro acc h
    simp only [List.all_cons, Bool.and_eq_true] at hd
    have hc : 48 ≤ c.toNat ∧ c.toNat ≤ 57 := by simpa [isD] using hd.1
    have hself := numF_self r (acc * 10 + (c.toNat - 48))
    rw [Lib.parseUint10, if_pos hc, numF_cons]
    by_cases h1 : 1844674407370955162 ≤ acc
    · rw [if_pos h1, if_neg (by omega)]
    · rw [if_neg h1]
      by_cases h2 : 18446744073709551616 ≤ acc * 10 + (c.toNat - 48)
      · rw [if_pos h2, if_neg (by omega)]
      · rw [if_neg h2]; exact ih hd.2 _ (by omega)
theorem atoi_digits {l : List UInt8} (hd : l.all isD = true) (hne : l ≠ []) : Lib.atoiAll l = if num l < 9223372036854775808 then .ok (num l : Int) else .range := by
  cases l with
  | nil => exact absurd rfl hne
  | cons c r =>
    have hd' := hd
    simp only [List.all_cons, Bool.and_eq_true] at hd'
    have hc : 48 ≤ c.toNat ∧ c.toNat ≤ 57 := by simpa [isD] using hd'.1
    have h0 := parse_digits (c :: r) hd 0 (by omega)
    rw [← num_eq] at h0
    unfold Lib.atoiAll
    simp only
    rw [if_neg (by omega)]
    unfold Lib.parseMag
    rw [if_neg (by simp), h0]
    by_cases h1 : num (c :: r) < 18446744073709551616
    · rw [if_pos h1]
      simp only
      have hn : ¬ c.toNat = 45 := by omega
      by_cases h2 : num (c :: r) < 9223372036854775808
      · rw [if_neg (by omega), if_neg (by omega), if_pos h2, if_neg hn]
      · rw [if_pos ⟨hn, by omega⟩, if_neg h2]
    · rw [if_neg h1, if_neg (by omega)]

/-! ### The digits behind the point -/
def restN (r : Nat) : List UInt8 := Lib.trimRightB ((Lib.decDigits (1000 + r)).drop 1) 48
theorem rest_one : ∀ a, a < 10 → a ≠ 0 → restN (100 * a) = [UInt8.ofNat (48 + a)] := by decide +kernel
theorem rest_two : ∀ a, a < 10 → ∀ b, b < 10 → b ≠ 0 → restN (100 * a + 10 * b) = [UInt8.ofNat (48 + a), UInt8.ofNat (48 + b)] := by decide +kernel
theorem rest_three : ∀ a, a < 10 → ∀ b, b < 10 → ∀ c, c < 10 → c ≠ 0 → restN (100 * a + 10 * b + c) = [UInt8.ofNat (48 + a), UInt8.ofNat (48 + b), UInt8.ofNat (48 + c)] := by decide +kernel
theorem digit_of {c : UInt8} (h : isD c = true) : ∃ a, a < 10 ∧ c = UInt8.ofNat (48 + a) ∧ c.toNat - 48 = a ∧ (c ≠ 48 → a ≠ 0) := by
  have hc : 48 ≤ c.toNat ∧ c.toNat ≤ 57 := by simpa [isD] using h
  exact ⟨c.toNat - 48, by omega, (ofNat_toNat h).symm, rfl, fun hn he => hn (UInt8.toNat_inj.1 (show c.toNat = 48 by omega))⟩
theorem num3 (x y z : UInt8) : num [x, y, z] = 100 * (x.toNat - 48) + 10 * (y.toNat - 48) + (z.toNat - 48) := by
  rw [num_eq, numF_cons, numF_cons, numF_cons, numF_nil]; omega
/-- The digits behind the point are what they are written as. -/
theorem rest_inv {f : List UInt8} (h : restOk f = true) : num ((f ++ [48, 48, 48]).take 3) ≠ 0 ∧ num ((f ++ [48, 48, 48]).take 3) < 1000 ∧ restN (num ((f ++ [48, 48, 48]).take 3)) = f := by
  have hl := rest_len h
  have hd := rest_isD h
  have hz : ((48 : UInt8).toNat - 48) = 0 := by decide
  unfold restOk at h
  simp only [Bool.and_eq_true, decide_eq_true_eq, bne_iff_ne, ne_eq] at h
  obtain ⟨⟨⟨_, h2⟩, _⟩, h4⟩ := h
  match f, hl, hd, h2, h4 with
  | [x], _, hd, _, h4 =>
    simp only [List.all_cons, List.all_nil, Bool.and_true] at hd
    obtain ⟨a, ha, ea, va, na⟩ := digit_of hd
    have hne := na (by simpa using h4)
    have e : num (([x] ++ [48, 48, 48]).take 3) = 100 * a := by
      rw [show ([x] ++ [48, 48, 48] : List UInt8).take 3 = [x, 48, 48] from rfl, num3, va, hz]; omega
    rw [e, rest_one a ha hne, ← ea]
    exact ⟨by omega, by omega, rfl⟩
  | [x, y], _, hd, _, h4 =>
    simp only [List.all_cons, List.all_nil, Bool.and_true, Bool.and_eq_true] at hd
    obtain ⟨a, ha, ea, va, _⟩ := digit_of hd.1
    obtain ⟨b, hb, eb, vb, nb⟩ := digit_of hd.2
    have hne := nb (by simpa using h4)
    have e : num (([x, y] ++ [48, 48, 48]).take 3) = 100 * a + 10 * b := by
      rw [show ([x, y] ++ [48, 48, 48] : List UInt8).take 3 = [x, y, 48] from rfl, num3, va, vb, hz]; omega
    rw [e, rest_two a ha b hb hne, ← ea, ← eb]
    exact ⟨by omega, by omega, rfl⟩
  | [x, y, z], _, hd, _, h4 =>
    simp only [List.all_cons, List.all_nil, Bool.and_true, Bool.and_eq_true] at hd
    obtain ⟨a, ha, ea, va, _⟩ := digit_of hd.1
    obtain ⟨b, hb, eb, vb, _⟩ := digit_of hd.2.1
    obtain ⟨c, hc, ec, vc, nc⟩ := digit_of hd.2.2
    have hne := nc (by simpa using h4)
    have e : num (([x, y, z] ++ [48, 48, 48]).take 3) = 100 * a + 10 * b + c := by
      rw [show ([x, y, z] ++ [48, 48, 48] : List UInt8).take 3 = [x, y, z] from rfl, num3, va, vb, vc]
    rw [e, rest_three a ha b hb c hc hne, ← ea, ← eb, ← ec]
    exact ⟨by omega, by omega, rfl⟩
theorem rest_ok : ∀ r, r < 1000 → r ≠ 0 → restOk (restN r) = true ∧ num ((restN r ++ [48, 48, 48]).take 3) = r := by decide +kernel

theorem itoa_nat (k : Nat) : Lib.itoa (k : Int) = Lib.decDigits k := by rw [itoa_pos _ (by omega)]; rfl
theorem restL_nat (r : Nat) : restL (r : Int) = restN r := by
  unfold restL restN
  rw [show (1000 + (r : Int)) = ((1000 + r : Nat) : Int) by omega, itoa_nat]
/-- The text of an integer, by the digits of its absolute value. -/
theorem textL_nat (n : Int) (k : Nat) (hk : n.natAbs = k) :
    textL n = (if n < 0 then [45] else []) ++ (Lib.decDigits (k / 1000) ++ (if k % 1000 = 0 then [] else 46 :: restN (k % 1000))) ++ [112, 116] := by
  have ha : absZ n = (k : Int) := by unfold absZ; split <;> omega
  unfold textL
  rw [ha, show (k : Int) / 1000 = ((k / 1000 : Nat) : Int) by omega, show (k : Int) % 1000 = ((k % 1000 : Nat) : Int) by omega, itoa_nat, restL_nat]
  by_cases h : k % 1000 = 0
  · rw [if_pos h, if_pos (show ((k % 1000 : Nat) : Int) = 0 by omega)]
  · rw [if_neg h, if_neg (show ¬ ((k % 1000 : Nat) : Int) = 0 by omega)]

theorem zeros : num ((([] : List UInt8) ++ [48, 48, 48]).take 3) = 0 := by
  show num [48, 48, 48] = 0
  rw [num3]; decide
theorem zero1 : num [48] = 0 := by simp only [num_eq, numF_cons, numF_nil]; decide

/-- What is read has this text. -/
theorem shape_text {l d : List UInt8} {neg : Bool} {fo : Option (List UInt8)} {n : Int} (h : Shape l neg d fo) (hn : finP neg d (fo.getD []) = (n, 0)) : textL n = l ∧ -1073741824 ≤ n ∧ n ≤ 1073741824 := by
  unfold finP at hn
  have hw := h.whole
  obtain ⟨x, y, z, e3⟩ := three (fo.getD []) (shape_len h)
  have hsum : num (d ++ (fo.getD [] ++ [48, 48, 48]).take 3) = num d * 1000 + num ((fo.getD [] ++ [48, 48, 48]).take 3) := by rw [e3, num_three]
  have hdec := dec_num d (whole_isD hw) (whole_ne hw) (whole_lead hw)
  by_cases hb : num (d ++ (fo.getD [] ++ [48, 48, 48]).take 3) ≤ 1073741824
  · rw [if_pos hb] at hn
    generalize hK : num (d ++ (fo.getD [] ++ [48, 48, 48]).take 3) = K at *
    have hn1 : (if neg = true then -(K : Int) else (K : Int)) = n := by injection hn
    have habs : n.natAbs = K := by subst hn1; split <;> omega
    refine ⟨?_, by subst hn1; split <;> omega, by subst hn1; split <;> omega⟩
    rw [textL_nat n K habs, h.eq]
    have hdig : K / 1000 = num d ∧ (if K % 1000 = 0 then [] else 46 :: restN (K % 1000)) = (fo.elim [] fun f => 46 :: f) ∧ (fo = none → K = num d * 1000) ∧ (fo ≠ none → K ≠ 0) := by
      cases hfo : fo with
      | none =>
        rw [hfo] at hsum
        have : num ((Option.getD none [] ++ [48, 48, 48] : List UInt8).take 3) = 0 := zeros
        rw [this] at hsum
        have e0 : K = num d * 1000 := hsum.trans (Nat.add_zero _)
        have e1 : K % 1000 = 0 := by rw [e0]; exact Nat.mul_mod_left _ _
        refine ⟨by rw [e0]; exact Nat.mul_div_cancel _ (by decide), ?_, fun _ => e0, fun hh => absurd rfl hh⟩
        rw [if_pos e1]; rfl
      | some f =>
        rw [hfo] at hsum
        obtain ⟨r1, r2, r3⟩ := rest_inv (h.rest f hfo)
        simp only [Option.getD] at hsum
        generalize num ((f ++ [48, 48, 48]).take 3) = R at *
        refine ⟨by omega, ?_, fun hh => (by cases hh), fun _ => (by omega)⟩
        rw [show K % 1000 = R by omega, if_neg r1, r3]; rfl
    obtain ⟨d1, d2, d3, d4⟩ := hdig
    rw [d1, d2, hdec]
    congr 2
    cases hneg : neg with
    | false =>
      rw [hneg] at hn1
      rw [if_neg (by simp at hn1; omega), if_neg (by simp)]
    | true =>
      rw [hneg] at hn1
      rw [if_pos, if_pos rfl]
      have hK0 : K ≠ 0 := by
        intro hK0
        cases hfo : fo with
        | some f => exact d4 (by rw [hfo]; simp) hK0
        | none =>
          have := d3 hfo
          have h0 : num d = 0 := by omega
          rw [h0] at hdec
          exact h.zero ⟨hneg, by rw [← hdec, dec_small (by omega)]; rfl, hfo⟩
      simp at hn1
      omega
  · rw [if_neg hb] at hn
    simp at hn
theorem code_text {l : List UInt8} {n : Int} (h : codeP l = (n, 0)) : textL n = l ∧ -1073741824 ≤ n ∧ n ≤ 1073741824 := by
  obtain ⟨neg, d, fo, hs⟩ := code_form (l := l) (by rw [h]; simp)
  rw [code_shape hs] at h
  exact shape_text hs h
/-- The text of a length is read as this length. -/
theorem code_of_text (n : Int) (h1 : -1073741824 ≤ n) (h2 : n ≤ 1073741824) : codeP (textL n) = (n, 0) := by
  obtain ⟨k, hk⟩ : ∃ k, n.natAbs = k := ⟨_, rfl⟩
  rw [textL_nat n k hk]
  have hwd : wholeOk (Lib.decDigits (k / 1000)) = true := by
    unfold wholeOk
    rw [dec_isD]
    simp only [Bool.true_and, Bool.and_eq_true, Bool.or_eq_true]
    refine ⟨by simpa using dec_ne (k / 1000), ?_⟩
    cases hd : Lib.decDigits (k / 1000) with
    | nil => exact absurd hd (dec_ne _)
    | cons c r =>
      by_cases hc : c = 48
      · subst hc
        have := dec_noLead _ r hd
        subst this
        left; rfl
      · right; simp [hc]
  have hfin : ∀ f : List UInt8, f.length ≤ 3 → num ((f ++ [48, 48, 48]).take 3) = k % 1000 → finP (decide (n < 0)) (Lib.decDigits (k / 1000)) f = (n, 0) := fun f hf hr => by
    obtain ⟨x, y, z, e3⟩ := three f hf
    have hsum : num (Lib.decDigits (k / 1000) ++ (f ++ [48, 48, 48]).take 3) = k := by rw [e3, num_three, num_dec, ← e3, hr]; omega
    unfold finP
    rw [hsum, if_pos (by omega)]
    by_cases hn : n < 0
    · rw [if_pos (by simp [hn])]; congr 1; omega
    · rw [if_neg (by simp [hn])]; congr 1; omega
  have hsg : (if n < 0 then [45] else [] : List UInt8) = if decide (n < 0) = true then [45] else [] := by by_cases hn : n < 0 <;> simp [hn]
  by_cases hr : k % 1000 = 0
  · have hs : Shape ((if n < 0 then [45] else []) ++ (Lib.decDigits (k / 1000) ++ (if k % 1000 = 0 then [] else 46 :: restN (k % 1000))) ++ [112, 116]) (decide (n < 0)) (Lib.decDigits (k / 1000)) none := by
      refine ⟨by rw [if_pos hr, hsg]; rfl, hwd, fun f hf => (by cases hf), fun hh => ?_⟩
      have hn : n < 0 := by simpa using hh.1
      have := num_dec (k / 1000)
      rw [hh.2.1] at this
      have h0 := zero1
      omega
    rw [code_shape hs]
    exact hfin _ (by simp) (by rw [hr]; exact zeros)
  · have hrr := rest_ok (k % 1000) (by omega) hr
    have hs : Shape ((if n < 0 then [45] else []) ++ (Lib.decDigits (k / 1000) ++ (if k % 1000 = 0 then [] else 46 :: restN (k % 1000))) ++ [112, 116]) (decide (n < 0)) (Lib.decDigits (k / 1000)) (some (restN (k % 1000))) := by
      refine ⟨by rw [if_neg hr, hsg]; rfl, hwd, fun f hf => (by cases hf; exact hrr.1), fun hh => (by cases hh.2.2)⟩
    rw [code_shape hs]
    exact hfin _ (rest_len hrr.1) hrr.2
end Go.Proofs.YtokdeeplblaieaaDoor.Len
