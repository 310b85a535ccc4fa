/- Plain facts on the texts of lengths: which byte strings are texts, what is read from them by the program's way and by the reference's, and that both are the same. No program is named here. -/
import Derived.Test.YtggiljlndenjoaaDoorMathText
import Derived.Test.YtggiljlndenjoaaDoorMath
namespace Go.Proofs.YtggiljlndenjoaaDoor.Len

/-- Can these bytes stand ahead of the point? -/
def wholeOk (d : List UInt8) : Bool := d.all isD && !d.isEmpty && (d == [48] || d.head? != some 48)
/-- Can they stand behind the point? -/
def restOk (f : List UInt8) : Bool := f.all isD && !f.isEmpty && decide (f.length ≤ 3) && f.getLast? != some 48
/-- What a text with these digits is read as, with the error's number. -/
def finP (neg : Bool) (d f : List UInt8) : Int × Int :=
  if num (d ++ (f ++ [48, 48, 48]).take 3) ≤ 1073741824 then (if neg = true then -(num (d ++ (f ++ [48, 48, 48]).take 3) : Int) else (num (d ++ (f ++ [48, 48, 48]).take 3) : Int), 0) else (0, 2)

/-- The program's way. -/
def codeP (l : List UInt8) : Int × Int :=
  let u0 := Lib.trimSuffix l [112, 116]
  let u := Lib.trimPrefix u0 [45]
  let c := Lib.cut u [46]
  if Lib.hasSuffix l [112, 116] = false ∨ wholeOk c.1 = false ∨ (c.2.2 = true ∧ restOk c.2.1 = false) then (0, 3)
  else if Lib.hasPrefix u0 [45] = true ∧ u = [48] then (0, 3)
  else finP (Lib.hasPrefix u0 [45]) c.1 c.2.1

/-- How many digits stand at the beginning. -/
def runL (l : List UInt8) : Nat := (l.takeWhile isD).length
/-- The reference's end. -/
def refFin (neg : Bool) (d f : List UInt8) : Int × Int := if 7 < d.length then (0, 2) else finP neg d f
/-- The reference's way, behind the sign. -/
def refT (neg : Bool) (t : List UInt8) : Int × Int :=
  if runL t = 0 ∨ (1 < runL t ∧ t.head? = some 48) then (0, 3)
  else
    let d := t.take (runL t)
    let r := t.drop (runL t)
    if r.head? = some 46 then
      let k := runL r.tail
      if k < 1 ∨ 3 < k ∨ (r.tail.take k).getLast? = some 48 ∨ r.tail.drop k ≠ [112, 116] then (0, 3) else refFin neg d (r.tail.take k)
    else if r ≠ [112, 116] ∨ (neg = true ∧ d = [48]) then (0, 3) else refFin neg d []
def refP (l : List UInt8) : Int × Int := if l.head? = some 45 then refT true l.tail else refT false l

/-- The text of a number of thousandths: its sign, its digits ahead of the point and behind it. -/
structure Shape (l : List UInt8) (neg : Bool) (d : List UInt8) (fo : Option (List UInt8)) : Prop where
  eq : l = (if neg = true then [45] else []) ++ (d ++ (fo.elim [] fun f => 46 :: f)) ++ [112, 116]
  whole : wholeOk d = true
  rest : ∀ f, fo = some f → restOk f = true
  zero : ¬ (neg = true ∧ d = [48] ∧ fo = none)

/-! ### The library's words on such texts -/
theorem suffix_yes (a : List UInt8) : Lib.hasSuffix (a ++ [112, 116]) [112, 116] = true := by
  unfold Lib.hasSuffix; rw [List.isSuffixOf_iff_suffix]; exact List.suffix_append ..
theorem trim_yes (a : List UInt8) : Lib.trimSuffix (a ++ [112, 116]) [112, 116] = a := by
  unfold Lib.trimSuffix
  rw [if_pos (suffix_yes a)]
  simp
theorem suffix_form {l : List UInt8} (h : Lib.hasSuffix l [112, 116] = true) : l = Lib.trimSuffix l [112, 116] ++ [112, 116] := by
  have h' := h
  unfold Lib.hasSuffix at h'
  rw [List.isSuffixOf_iff_suffix] at h'
  obtain ⟨a, rfl⟩ := h'
  rw [trim_yes]
theorem prefix_form {l : List UInt8} (h : Lib.hasPrefix l [45] = true) : l = 45 :: Lib.trimPrefix l [45] := by
  cases l with
  | nil => simp [Lib.hasPrefix] at h
  | cons c r =>
    have hc : (45 == c) = true := by simpa [Lib.hasPrefix, List.isPrefixOf] using h
    have : 45 = c := by simpa using hc
    subst this
    unfold Lib.trimPrefix
    rw [if_pos h]
    rfl
theorem prefix_none {l : List UInt8} (h : Lib.hasPrefix l [45] = false) : Lib.trimPrefix l [45] = l := by simp [Lib.trimPrefix, h]

theorem index_point (d f : List UInt8) (hd : d.all isD = true) : Lib.index (d ++ 46 :: f) [46] = d.length := by
  induction d with
  | nil => simp [Lib.index, List.isPrefixOf]
  | cons c r ih =>
    simp only [List.all_cons, Bool.and_eq_true] at hd
    have hc : 48 ≤ c.toNat ∧ c.toNat ≤ 57 := by simpa [isD] using hd.1
    have hne : (46 == c) = false := by
      rw [beq_eq_false_iff_ne]; rintro rfl; simp at hc
    rw [List.cons_append, Lib.index, ih hd.2]
    have h1 : ([46] : List UInt8).isPrefixOf (c :: (r ++ 46 :: f)) = false := by simp [List.isPrefixOf, hne]
    rw [h1, if_neg (by simp), if_neg (by simp <;> omega)]
    simp
theorem index_no (d : List UInt8) (hd : d.all isD = true) : Lib.index d [46] = -1 := by
  induction d with
  | nil => simp [Lib.index]
  | cons c r ih =>
    simp only [List.all_cons, Bool.and_eq_true] at hd
    have hc : 48 ≤ c.toNat ∧ c.toNat ≤ 57 := by simpa [isD] using hd.1
    have hne : (46 == c) = false := by
      rw [beq_eq_false_iff_ne]; rintro rfl; simp at hc
    rw [Lib.index, ih hd.2]
    have h1 : ([46] : List UInt8).isPrefixOf (c :: r) = false := by simp [List.isPrefixOf, hne]
    rw [h1, if_neg (by simp)]
    simp
theorem cut_some (d f : List UInt8) (hd : d.all isD = true) : Lib.cut (d ++ 46 :: f) [46] = (d, f, true) := by
  unfold Lib.cut
  rw [index_point d f hd, if_pos (by omega)]
  simp
theorem cut_none (d : List UInt8) (hd : d.all isD = true) : Lib.cut d [46] = (d, [], false) := by
  unfold Lib.cut
  rw [index_no d hd, if_neg (by omega)]
theorem index_at : ∀ (l : List UInt8), 0 ≤ Lib.index l [46] → ∃ k : Nat, Lib.index l [46] = k ∧ l = l.take k ++ 46 :: l.drop (k + 1)
  | [], h => by simp [Lib.index] at h
  | c :: r, h => by
    rw [Lib.index] at h ⊢
    by_cases hc : ([46] : List UInt8).isPrefixOf (c :: r) = true
    · have : 46 = c := by simpa [List.isPrefixOf] using hc
      subst this
      exact ⟨0, by rw [if_pos hc]; rfl, by simp⟩
    · rw [if_neg hc] at h ⊢
      by_cases hi : (Lib.index r [46] == -1) = true
      · rw [if_pos hi] at h; omega
      · rw [if_neg hi] at h ⊢
        have hge := Lib.index_ge r [46]
        have hne : Lib.index r [46] ≠ -1 := by simpa using hi
        obtain ⟨k, hk, e⟩ := index_at r (by omega)
        refine ⟨k + 1, by rw [hk]; rfl, ?_⟩
        rw [List.take_succ_cons, List.drop_succ_cons, List.cons_append, ← e]
theorem cut_form (u : List UInt8) : ((Lib.cut u [46]).2.2 = true ∧ u = (Lib.cut u [46]).1 ++ 46 :: (Lib.cut u [46]).2.1) ∨ ((Lib.cut u [46]).2.2 = false ∧ u = (Lib.cut u [46]).1 ∧ (Lib.cut u [46]).2.1 = []) := by
  unfold Lib.cut
  by_cases h : 0 ≤ Lib.index u [46]
  · rw [if_pos h]
    obtain ⟨k, hk, e⟩ := index_at u h
    refine .inl ⟨rfl, ?_⟩
    rw [hk]
    simpa using e
  · rw [if_neg h]; exact .inr ⟨rfl, rfl, rfl⟩

theorem whole_isD {d : List UInt8} (h : wholeOk d = true) : d.all isD = true := by
  unfold wholeOk at h; simp only [Bool.and_eq_true] at h; exact h.1.1
theorem whole_ne {d : List UInt8} (h : wholeOk d = true) : d ≠ [] := by
  unfold wholeOk at h; simp only [Bool.and_eq_true] at h; simpa using h.1.2
theorem whole_lead {d : List UInt8} (h : wholeOk d = true) : noLead d := by
  unfold wholeOk at h
  simp only [Bool.and_eq_true, Bool.or_eq_true] at h
  intro t ht
  rcases h.2 with e | e
  · have : d = [48] := by simpa using e
    rw [this] at ht; simpa using ht.symm
  · rw [ht] at e; simp at e
theorem rest_isD {f : List UInt8} (h : restOk f = true) : f.all isD = true := by
  unfold restOk at h; simp only [Bool.and_eq_true] at h; exact h.1.1.1
theorem no_minus {c : UInt8} (h : isD c = true) : c ≠ 45 := by
  rintro rfl; simp [isD] at h
theorem head_digit {d : List UInt8} (h : wholeOk d = true) : ∃ c r, d = c :: r ∧ isD c = true := by
  cases hd : d with
  | nil => exact absurd hd (whole_ne h)
  | cons c r =>
    have := whole_isD h
    rw [hd] at this
    simp only [List.all_cons, Bool.and_eq_true] at this
    exact ⟨c, r, rfl, this.1⟩

theorem code_of {l u d f : List UInt8} {neg b : Bool} (hl : l = (if neg = true then [45] else []) ++ u ++ [112, 116]) (hu : Lib.hasPrefix u [45] = false) (hc : Lib.cut u [46] = (d, f, b)) (hw : wholeOk d = true) (hf : b = true → restOk f = true)
    (hz : ¬ (neg = true ∧ u = [48])) : codeP l = finP neg d f := by
  have e1 : Lib.hasSuffix l [112, 116] = true := by rw [hl]; exact suffix_yes _
  have e2 : Lib.trimSuffix l [112, 116] = (if neg = true then [45] else []) ++ u := by rw [hl, trim_yes]
  have e3 : Lib.hasPrefix ((if neg = true then [45] else []) ++ u) [45] = neg := by
    cases neg with
    | true => simp [Lib.hasPrefix, List.isPrefixOf]
    | false => simpa using hu
  have e4 : Lib.trimPrefix ((if neg = true then [45] else []) ++ u) [45] = u := by
    unfold Lib.trimPrefix
    rw [e3]
    cases neg <;> simp
  unfold codeP
  simp only [e1, e2, e3, e4, hc]
  rw [if_neg (by simp [hw]; exact hf), if_neg hz]
theorem digit_first {d x : List UInt8} (h : wholeOk d = true) : Lib.hasPrefix (d ++ x) [45] = false := by
  obtain ⟨c, r, rfl, hc⟩ := head_digit h
  have : (45 == c) = false := by rw [beq_eq_false_iff_ne]; exact fun e => no_minus hc e.symm
  simp [Lib.hasPrefix, List.isPrefixOf, this]
/-- A text is read by the program's way as what its digits say. -/
theorem code_shape {l d : List UInt8} {neg : Bool} {fo : Option (List UInt8)} (h : Shape l neg d fo) : codeP l = finP neg d (fo.getD []) := by
  have hw := h.whole
  cases fo with
  | none =>
    have hl : l = (if neg = true then [45] else []) ++ d ++ [112, 116] := by have := h.eq; simpa using this
    refine code_of hl (by simpa using digit_first (x := []) hw) (cut_none d (whole_isD hw)) hw (fun hb => by cases hb) (fun hh => h.zero ⟨hh.1, hh.2, rfl⟩)
  | some f =>
    have hl : l = (if neg = true then [45] else []) ++ (d ++ 46 :: f) ++ [112, 116] := h.eq
    refine code_of hl (digit_first hw) (cut_some d f (whole_isD hw)) hw (fun _ => h.rest f rfl) (fun hh => ?_)
    have h2 := congrArg List.length hh.2
    have := whole_ne hw
    cases d with
    | nil => exact this rfl
    | cons x y => simp at h2
/-- What the program's way takes for a text is one. -/
theorem code_form {l : List UInt8} (h : codeP l ≠ (0, 3)) : ∃ neg d fo, Shape l neg d fo := by
  unfold codeP at h
  simp only at h
  by_cases h1 : Lib.hasSuffix l [112, 116] = false ∨ wholeOk (Lib.cut (Lib.trimPrefix (Lib.trimSuffix l [112, 116]) [45]) [46]).1 = false ∨ ((Lib.cut (Lib.trimPrefix (Lib.trimSuffix l [112, 116]) [45]) [46]).2.2 = true ∧ restOk (Lib.cut (Lib.trimPrefix (Lib.trimSuffix l [112, 116]) [45]) [46]).2.1 = false)
  · rw [if_pos h1] at h; exact absurd rfl h
  rw [if_neg h1] at h
  by_cases h2 : Lib.hasPrefix (Lib.trimSuffix l [112, 116]) [45] = true ∧ Lib.trimPrefix (Lib.trimSuffix l [112, 116]) [45] = [48]
  · rw [if_pos h2] at h; exact absurd rfl h
  simp only [not_or, Bool.not_eq_false, not_and] at h1
  obtain ⟨ha, hb, hc⟩ := h1
  have es := suffix_form ha
  generalize Lib.trimSuffix l [112, 116] = u0 at *
  have eu : u0 = (if Lib.hasPrefix u0 [45] = true then [45] else []) ++ Lib.trimPrefix u0 [45] := by
    cases hp : Lib.hasPrefix u0 [45] with
    | true => rw [if_pos rfl]; exact prefix_form hp
    | false => rw [if_neg (by simp), prefix_none hp]; rfl
  generalize Lib.hasPrefix u0 [45] = neg at *
  generalize Lib.trimPrefix u0 [45] = u at *
  rcases cut_form u with ⟨t1, t2⟩ | ⟨t1, t2, t3⟩
  · refine ⟨neg, (Lib.cut u [46]).1, some (Lib.cut u [46]).2.1, ?_, hb, ?_, fun hh => by cases hh.2.2⟩
    · rw [es, eu]
      simp only [Option.elim]
      rw [← t2]
    · intro f hf
      cases hf
      exact hc t1
  · refine ⟨neg, (Lib.cut u [46]).1, none, ?_, hb, fun f hf => (by cases hf), fun hh => h2 ⟨hh.1, ?_⟩⟩
    · rw [es, eu]
      simp only [Option.elim, List.append_nil]
      rw [← t2]
    · rw [t2]; exact hh.2.1

/-! ### The reference's way -/
theorem run_stop (d x : List UInt8) (hd : d.all isD = true) (hx : ∀ c r, x = c :: r → isD c = false) : runL (d ++ x) = d.length := by
  unfold runL
  rw [List.takeWhile_append_of_pos (fun c hc => List.all_eq_true.1 hd c hc)]
  cases x with
  | nil => simp
  | cons c r => rw [List.takeWhile_cons_of_neg (by rw [hx c r rfl]; simp)]; simp
theorem ref_of {d x : List UInt8} {neg : Bool} (hw : wholeOk d = true) (hx : ∀ c r, x = c :: r → isD c = false) :
    refT neg (d ++ x) = (if x.head? = some 46 then
      if runL x.tail < 1 ∨ 3 < runL x.tail ∨ (x.tail.take (runL x.tail)).getLast? = some 48 ∨ x.tail.drop (runL x.tail) ≠ [112, 116] then (0, 3) else refFin neg d (x.tail.take (runL x.tail))
    else if x ≠ [112, 116] ∨ (neg = true ∧ d = [48]) then (0, 3) else refFin neg d []) := by
  have h0 := whole_ne hw
  have hlen : d.length ≠ 0 := fun e => h0 (List.eq_nil_of_length_eq_zero e)
  have hl := whole_lead hw
  unfold refT
  rw [run_stop d x (whole_isD hw) hx, if_neg (fun hh => by
    rcases hh with hh | ⟨h1, h2⟩
    · exact hlen hh
    · cases hd : d with
      | nil => exact h0 hd
      | cons c r =>
        rw [hd] at h2 h1
        have : c = 48 := by simpa using h2
        subst this
        have := hl r hd
        subst this
        simp at h1)]
  simp only [List.take_left, List.drop_left]
theorem ref_shape {l d : List UInt8} {neg : Bool} {fo : Option (List UInt8)} (h : Shape l neg d fo) : refP l = refFin neg d (fo.getD []) := by
  have hw := h.whole
  obtain ⟨c, r, hd, hc⟩ := head_digit hw
  have hsign : refP l = refT neg (d ++ (fo.elim [] fun f => 46 :: f) ++ [112, 116]) := by
    unfold refP
    rw [h.eq]
    cases neg with
    | true => rw [if_pos (by simp)]; simp
    | false =>
      rw [if_neg (by rw [hd]; simp; exact no_minus hc)]
      simp
  rw [hsign]
  cases fo with
  | none =>
    simp only [Option.elim, List.append_nil, Option.getD]
    rw [ref_of hw (fun c r e => by injection e with e1 _; subst e1; simp [isD]), if_neg (by simp), if_neg (fun hh => ?_)]
    rcases hh with hh | hh
    · exact hh rfl
    · exact h.zero ⟨hh.1, hh.2, rfl⟩
  | some f =>
    simp only [Option.elim, Option.getD]
    have hf := h.rest f rfl
    have hf1 := rest_isD hf
    have hrun : runL (f ++ [112, 116]) = f.length := run_stop f _ hf1 (fun c r e => by injection e with e1 _; subst e1; simp [isD])
    unfold restOk at hf
    simp only [Bool.and_eq_true, decide_eq_true_eq, bne_iff_ne, ne_eq] at hf
    obtain ⟨⟨⟨_, hf2⟩, hf3⟩, hf4⟩ := hf
    have hf5 : f ≠ [] := by simpa using hf2
    have hf6 : f.length ≠ 0 := fun e => hf5 (List.eq_nil_of_length_eq_zero e)
    rw [List.append_assoc, ref_of (x := 46 :: f ++ [112, 116]) hw (fun c r e => by injection e with e1 _; subst e1; simp [isD]), if_pos (by simp)]
    simp only [List.cons_append, List.tail_cons, hrun, List.take_left, List.drop_left]
    rw [if_neg (fun hh => ?_)]
    rcases hh with hh | hh | hh | hh
    · omega
    · omega
    · exact hf4 hh
    · exact hh rfl
theorem take_run (l : List UInt8) : l.take (runL l) = l.takeWhile isD := by
  unfold runL
  induction l with
  | nil => simp
  | cons c r ih =>
    by_cases hc : isD c = true
    · rw [List.takeWhile_cons_of_pos hc, List.length_cons, List.take_succ_cons, ih]
    · rw [List.takeWhile_cons_of_neg hc]; simp
theorem all_run (l : List UInt8) : (l.take (runL l)).all isD = true := by
  rw [take_run]; exact List.all_takeWhile
theorem len_run (l : List UInt8) : (l.take (runL l)).length = runL l := by
  rw [take_run]; rfl
theorem ref_form_t {neg : Bool} {t : List UInt8} (h : refT neg t ≠ (0, 3)) : ∃ d fo, Shape ((if neg = true then [45] else []) ++ t) neg d fo := by
  unfold refT at h
  by_cases h1 : runL t = 0 ∨ (1 < runL t ∧ t.head? = some 48)
  · rw [if_pos h1] at h; exact absurd rfl h
  rw [if_neg h1] at h
  simp only at h
  have hall := all_run t
  have hlen := len_run t
  have hsplit : t.take (runL t) ++ t.drop (runL t) = t := List.take_append_drop ..
  have hw : wholeOk (t.take (runL t)) = true := by
    unfold wholeOk
    rw [hall]
    simp only [Bool.true_and, Bool.and_eq_true, Bool.or_eq_true]
    cases hd : t.take (runL t) with
    | nil => rw [hd] at hlen; simp at hlen; omega
    | cons c r =>
      refine ⟨rfl, ?_⟩
      by_cases hc : c = 48
      · subst hc
        left
        have hh : t.head? = some 48 := by rw [← hsplit, hd]; rfl
        have : runL t = 1 := by
          have : ¬ 1 < runL t := fun e => h1 (.inr ⟨e, hh⟩)
          omega
        rw [hd, this] at hlen
        simp at hlen
        subst hlen
        rfl
      · right
        simp [hc]
  generalize t.take (runL t) = d at *
  generalize t.drop (runL t) = r at *
  by_cases h2 : r.head? = some 46
  · rw [if_pos h2] at h
    by_cases h3 : runL r.tail < 1 ∨ 3 < runL r.tail ∨ (r.tail.take (runL r.tail)).getLast? = some 48 ∨ r.tail.drop (runL r.tail) ≠ [112, 116]
    · rw [if_pos h3] at h; exact absurd rfl h
    · simp only [not_or, Classical.not_not] at h3
      obtain ⟨a1, a2, a3, a4⟩ := h3
      have hr : r = 46 :: r.tail := by
        cases r with
        | nil => simp at h2
        | cons x y => simp at h2; rw [h2]; rfl
      have hs2 : r.tail.take (runL r.tail) ++ r.tail.drop (runL r.tail) = r.tail := List.take_append_drop ..
      have hl2 := len_run r.tail
      have hall2 := all_run r.tail
      rw [a4] at hs2
      have hr' : r = 46 :: (r.tail.take (runL r.tail) ++ [112, 116]) := by rw [hs2]; exact hr
      refine ⟨d, some (r.tail.take (runL r.tail)), ?_, hw, fun f hf => ?_, fun hh => by cases hh.2.2⟩
      · simp only [Option.elim]
        generalize r.tail.take (runL r.tail) = f0 at *
        rw [← hsplit, hr']
        simp
      · cases hf
        unfold restOk
        rw [hall2, hl2]
        have hne : r.tail.take (runL r.tail) ≠ [] := fun e => by rw [e] at hl2; simp at hl2; omega
        simp only [Bool.true_and, Bool.and_eq_true, decide_eq_true_eq, bne_iff_ne, ne_eq]
        exact ⟨⟨by simpa using hne, by omega⟩, a3⟩
  · rw [if_neg h2] at h
    by_cases h3 : r ≠ [112, 116] ∨ (neg = true ∧ d = [48])
    · rw [if_pos h3] at h; exact absurd rfl h
    · simp only [not_or, Classical.not_not] at h3
      refine ⟨d, none, ?_, hw, fun f hf => (by cases hf), fun hh => h3.2 ⟨hh.1, hh.2.1⟩⟩
      simp only [Option.elim, List.append_nil]
      rw [← hsplit, h3.1, List.append_assoc]
theorem ref_form {l : List UInt8} (h : refP l ≠ (0, 3)) : ∃ neg d fo, Shape l neg d fo := by
  unfold refP at h
  by_cases h1 : l.head? = some 45
  · rw [if_pos h1] at h
    obtain ⟨d, fo, hs⟩ := ref_form_t h
    refine ⟨true, d, fo, ?_⟩
    have : l = 45 :: l.tail := by
      cases l with
      | nil => simp at h1
      | cons c r => simp at h1; rw [h1]; rfl
    rw [this]
    exact hs
  · rw [if_neg h1] at h
    obtain ⟨d, fo, hs⟩ := ref_form_t h
    exact ⟨false, d, fo, hs⟩
end Go.Proofs.YtggiljlndenjoaaDoor.Len
