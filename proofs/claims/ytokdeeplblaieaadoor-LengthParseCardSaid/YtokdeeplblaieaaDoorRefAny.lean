/- The contract of the reference's Parse, at every string of up to 40 bytes. -/
import Derived.Test.YtokdeeplblaieaaDoorRefParse
import Derived.Lib.Strings
namespace Go.Proofs.YtokdeeplblaieaaDoor.Len
open Go Go.RowKit

theorem empty_way (s : ByteArray) (w : World) (h0 : s.size = 0) :
    Calls Tryd.prog 26 #[.string s] w (Ends (0, 3) w) := by
  have hr : Hid (runL s.data.toList = 0) := Lib.hid (by
    have : s.data.toList = [] := List.eq_nil_of_length_eq_zero (by simpa using h0)
    rw [this]; rfl)
  go_enter Tryd.func26, Tryd.ntmps26
  go_wp2_with fail
  refine (run_any _ _ (by omega)).mono ?_
  rintro e w1 ⟨rfl, rfl⟩
  rw [hr.out]
  go_wp2_with fail
  go_ret2
  exact ends_of rfl (Below.refl _ _)

theorem sz (s : ByteArray) : s.data.toList.length = s.size := by simp
theorem ext_take (b : ByteArray) (r : Nat) : (b.extract 0 r).data.toList = b.data.toList.take r := by
  rw [Lib.extract_data]; simp
theorem ext_drop (b : ByteArray) (r : Nat) : (b.extract r b.size).data.toList = b.data.toList.drop r := by
  rw [Lib.extract_data, List.take_of_length_le (by rw [List.length_drop, sz]; omega)]
theorem ext_mid (x : ByteArray) (k : Nat) : (x.extract 1 (1 + k)).data.toList = x.data.toList.tail.take k := by
  rw [Lib.extract_data, List.drop_one]; congr 1; omega
theorem ext_rest (x : ByteArray) (k : Nat) : (x.extract (1 + k) x.size).data.toList = x.data.toList.tail.drop k := by
  rw [ext_drop, ← List.drop_one, List.drop_drop]
theorem eqB (x : ByteArray) (l : List UInt8) : (x.toList == l) = (x.data.toList == l) := by rw [ByteArray.toList_eq]
theorem byte_is {c : UInt8} {n : UInt8} (h : c = n) : ((c.toNat : Int) == (n.toNat : Int)) = true := by subst h; simp
theorem byte_not {c : UInt8} {n : UInt8} (h : c ≠ n) : ((c.toNat : Int) == (n.toNat : Int)) = false := by
  rw [beq_eq_false_iff_ne]
  intro e
  exact h (UInt8.toNat_inj.1 (by omega))
theorem run_le (l : List UInt8) : runL l ≤ l.length := by
  have := len_run l
  rw [List.length_take] at this
  omega

/-- Behind the sign. -/
theorem ref_tail {s b : ByteArray} {neg : Bool} {hpos : 0 < s.size} (hS : Sg s b neg hpos) (w : World) :
    Calls Tryd.prog 26 #[.string s] w (Ends (refT neg b.data.toList) w) := by
  have hb : b.size ≤ 40 := by
    have h1 := hS.small
    have h2 := congrArg ByteArray.size hS.rest
    cases neg with
    | true => simp at h2; omega
    | false => simp at h2; omega
  obtain ⟨r, hr⟩ : ∃ r, runL b.data.toList = r := ⟨_, rfl⟩
  have hrb : r ≤ b.size := by have := run_le b.data.toList; rw [sz] at this; omega
  have HR := Lib.hid hr
  by_cases h0 : r = 0
  · have e : refT neg b.data.toList = (0, 3) := by unfold refT; rw [hr, if_pos (.inl h0)]
    rw [e]; exact way_none hS w HR hrb hb h0
  have hb0 : 0 < b.size := by omega
  by_cases h1 : 1 < r ∧ b.data.toList.head? = some 48
  · have e : refT neg b.data.toList = (0, 3) := by unfold refT; rw [hr, if_pos (.inr h1)]
    rw [e]
    have hh := h1.2
    rw [head_byte hb0] at hh
    exact way_lead hS w HR hrb hb h1.1 (byte_is (n := 48) (by simpa using hh))
  have hlead : r ≤ 1 ∨ (1 < r ∧ (((b[0]'(by omega)).toNat : Int) == 48) = false) := by
    by_cases h2 : 1 < r
    · refine .inr ⟨h2, byte_not (n := 48) (fun e => h1 ⟨h2, ?_⟩)⟩
      rw [head_byte hb0, e]
    · exact .inl (by omega)
  obtain ⟨d, ed⟩ : ∃ d, b.extract 0 r = d := ⟨_, rfl⟩
  obtain ⟨x, ex⟩ : ∃ x, b.extract r b.size = x := ⟨_, rfl⟩
  have hD : d.data.toList = b.data.toList.take r := by rw [← ed, ext_take]
  have hX : x.data.toList = b.data.toList.drop r := by rw [← ex, ext_drop]
  have hdl : d.size = r := by rw [← sz, hD, List.length_take, sz]; omega
  have hdig : d.data.toList.all isD = true := by rw [hD, ← hr]; exact all_run _
  have eT : refT neg b.data.toList = (if x.data.toList.head? = some 46 then
      if runL x.data.toList.tail < 1 ∨ 3 < runL x.data.toList.tail ∨ (x.data.toList.tail.take (runL x.data.toList.tail)).getLast? = some 48 ∨ x.data.toList.tail.drop (runL x.data.toList.tail) ≠ [112, 116] then (0, 3) else refFin neg d.data.toList (x.data.toList.tail.take (runL x.data.toList.tail))
    else if x.data.toList ≠ [112, 116] ∨ (neg = true ∧ d.data.toList = [48]) then (0, 3) else refFin neg d.data.toList []) := by
    unfold refT
    rw [hr, if_neg (by rintro (h | h); exact h0 h; exact h1 h)]
    simp only [← hD, ← hX]
  rw [eT]
  have hxb : x.size ≤ 40 := by rw [← sz, hX, List.length_drop, sz]; omega
  by_cases hp : x.data.toList.head? = some 46
  · rw [if_pos hp]
    have hx0 : 0 < x.size := by
      rcases Nat.eq_zero_or_pos x.size with h | h
      · have : x.data.toList = [] := List.eq_nil_of_length_eq_zero (by rw [sz]; exact h)
        rw [this] at hp; simp at hp
      · exact h
    have hx : (((x[0]'hx0).toNat : Int) == 46) = true := by
      rw [head_byte hx0] at hp
      exact byte_is (n := 46) (by simpa using hp)
    obtain ⟨x1, ex1⟩ : ∃ x1, x.extract 1 x.size = x1 := ⟨_, rfl⟩
    have hX1 : x1.data.toList = x.data.toList.tail := by rw [← ex1, ext_drop, List.drop_one]
    have hxs : x1.size + 1 = x.size := by rw [← sz x1, hX1, List.length_tail, sz]; omega
    obtain ⟨k, hk⟩ : ∃ k, runL x.data.toList.tail = k := ⟨_, rfl⟩
    have HK : Hid (runL x1.data.toList = k) := Lib.hid (by rw [hX1]; exact hk)
    have hkb : k ≤ x1.size := by have := run_le x1.data.toList; rw [HK.out, sz] at this; exact this
    obtain ⟨f, ef⟩ : ∃ f, x.extract 1 (1 + k) = f := ⟨_, rfl⟩
    obtain ⟨y, ey⟩ : ∃ y, x.extract (1 + k) x.size = y := ⟨_, rfl⟩
    have hF : f.data.toList = x.data.toList.tail.take k := by rw [← ef, ext_mid]
    have hY : y.data.toList = x.data.toList.tail.drop k := by rw [← ey, ext_rest]
    have hfk : f.size = k := by rw [← sz, hF, List.length_take, ← hX1, sz]; omega
    have hfd : f.data.toList.all isD = true := by rw [hF, ← hk]; exact all_run _
    rw [hk, ← hF, ← hY]
    by_cases c1 : k < 1
    · rw [if_pos (.inl c1)]; exact way_pbad1 hS w HR hrb hb (by omega) hlead ed ex hx0 hx ex1 hxs hxb HK hkb ef ey c1
    by_cases c2 : 3 < k
    · rw [if_pos (.inr (.inl c2))]; exact way_pbad2 hS w HR hrb hb (by omega) hlead ed ex hx0 hx ex1 hxs hxb HK hkb ef ey c2
    have hlast := last_byte (s := f) (by omega)
    by_cases c3 : f.data.toList.getLast? = some 48
    · rw [if_pos (.inr (.inr (.inl c3)))]
      rw [hlast] at c3
      refine way_pbad3 hS w HR hrb hb (by omega) hlead ed ex hx0 hx ex1 hxs hxb HK hkb ef ey (by omega) (by omega) hfk (byte_is (n := 48) ?_)
      simpa [hfk] using c3
    have hf8 : (((f[k - 1]'(by omega)).toNat : Int) == 48) = false := byte_not (n := 48) (fun e => c3 (by
      rw [hlast]
      simpa [hfk] using e))
    by_cases c4 : y.data.toList ≠ [112, 116]
    · rw [if_pos (.inr (.inr (.inr c4)))]
      exact way_pbad4 hS w HR hrb hb (by omega) hlead ed ex hx0 hx ex1 hxs hxb HK hkb ef ey (by omega) (by omega) hfk hf8 (by rw [eqB]; simpa using c4)
    rw [if_neg (by rintro (h | h | h | h); exact c1 h; exact c2 h; exact c3 h; exact c4 h)]
    have hyp : (y.toList == [112, 116]) = true := by rw [eqB]; simpa using c4
    have hfe : f.toList.isEmpty = false := by
      rw [ByteArray.toList_eq]
      cases hfl : f.data.toList with
      | nil => have := sz f; rw [hfl] at this; simp at this; omega
      | cons _ _ => rfl
    unfold refFin
    rw [sz, hdl]
    by_cases c5 : 7 < r
    · rw [if_pos c5]
      exact way_plong hS w HR hrb hb (by omega) hlead ed ex hx0 hx ex1 hxs hxb HK hkb ef ey (by omega) (by omega) hfk hf8 hyp hfe rfl (by omega)
    rw [if_neg c5]
    obtain ⟨a, ea⟩ : ∃ a, d ++ (f ++ { data := #[48, 48, 48] }).extract 0 3 = a := ⟨_, rfl⟩
    have hA : a.data.toList = d.data.toList ++ (f.data.toList ++ [48, 48, 48]).take 3 := by rw [← ea]; exact catD d.data.toList f.data.toList
    have hal : a.size ≤ 10 := by rw [← sz, hA, List.length_append, List.length_take, sz, hdl]; omega
    have hHL : a.data.toList.all isD = true := by rw [hA, List.all_append, hdig, three_digits (by rw [sz]; omega) hfd]; rfl
    have hV := num_lt _ hHL
    have h10 := ten _ (show a.data.toList.length ≤ 10 by rw [sz]; exact hal)
    unfold finP
    rw [← hA]
    obtain ⟨V, hVe⟩ : ∃ V, num a.data.toList = V := ⟨_, rfl⟩
    rw [hVe] at hV ⊢
    by_cases c6 : V ≤ 1073741824
    · rw [if_pos c6]
      exact way_pok hS w HR hrb hb (by omega) hlead ed ex hx0 hx ex1 hxs hxb HK hkb ef ey (by omega) (by omega) hfk hf8 hyp hfe rfl (by omega) a hal (Lib.hid hHL) (Lib.hid hVe) (by omega) ea (by split <;> exact valid_of (by omega) (by omega))
    · rw [if_neg c6]
      exact way_pbig hS w HR hrb hb (by omega) hlead ed ex hx0 hx ex1 hxs hxb HK hkb ef ey (by omega) (by omega) hfk hf8 hyp hfe rfl (by omega) a hal (Lib.hid hHL) (Lib.hid hVe) (by omega) ea (by split <;> exact invalid_of (by omega))
  · rw [if_neg hp]
    by_cases c1 : x.data.toList ≠ [112, 116]
    · rw [if_pos (.inl c1)]
      have hxp : (x.toList == [112, 116]) = false := by rw [eqB]; simpa using c1
      rcases Nat.eq_zero_or_pos x.size with h | h
      · exact way_nobad1 hS w HR hrb hb (by omega) hlead ed ex h hxp
      · refine way_nobad2 hS w HR hrb hb (by omega) hlead ed ex h (byte_not (n := 46) (fun e => hp ?_)) hxp
        rw [head_byte h, e]
    have c1' : x.data.toList = [112, 116] := Classical.not_not.1 c1
    have hxp : (x.toList == [112, 116]) = true := by rw [eqB, c1']; rfl
    have hx0 : 0 < x.size := by rw [← sz, c1']; decide
    have hx : (((x[0]'hx0).toNat : Int) == 46) = false := byte_not (n := 46) (fun e => hp (by rw [head_byte hx0, e]))
    by_cases c2 : neg = true ∧ d.data.toList = [48]
    · rw [if_pos (.inr c2)]
      exact way_nozero hS w HR hrb hb (by omega) hlead ed ex hx0 hx hxp c2.1 (by rw [eqB, c2.2]; rfl)
    rw [if_neg (by rintro (h | h); exact c1 h; exact c2 h)]
    have hd : neg = true → (d.toList == [48]) = false := fun e => by
      rw [eqB]; simpa using fun h => c2 ⟨e, h⟩
    unfold refFin
    rw [sz, hdl]
    by_cases c5 : 7 < r
    · rw [if_pos c5]
      exact way_nolong hS w HR hrb hb (by omega) hlead ed ex hx0 hx hxp hd (by omega)
    rw [if_neg c5]
    obtain ⟨a, ea⟩ : ∃ a, d ++ (({ data := #[] } : ByteArray) ++ { data := #[48, 48, 48] }).extract 0 3 = a := ⟨_, rfl⟩
    have hA : a.data.toList = d.data.toList ++ (([] : List UInt8) ++ [48, 48, 48]).take 3 := by rw [← ea]; exact catD d.data.toList []
    have hal : a.size ≤ 10 := by rw [← sz, hA, List.length_append, List.length_take, sz, hdl]; omega
    have hHL : a.data.toList.all isD = true := by rw [hA, List.all_append, hdig, three_digits (by simp) rfl]; rfl
    have hV := num_lt _ hHL
    have h10 := ten _ (show a.data.toList.length ≤ 10 by rw [sz]; exact hal)
    unfold finP
    rw [← hA]
    obtain ⟨V, hVe⟩ : ∃ V, num a.data.toList = V := ⟨_, rfl⟩
    rw [hVe] at hV ⊢
    by_cases c6 : V ≤ 1073741824
    · rw [if_pos c6]
      exact way_nook hS w HR hrb hb (by omega) hlead ed ex hx0 hx hxp hd (by omega) a hal (Lib.hid hHL) (Lib.hid hVe) (by omega) ea (by split <;> exact valid_of (by omega) (by omega))
    · rw [if_neg c6]
      exact way_nobig hS w HR hrb hb (by omega) hlead ed ex hx0 hx hxp hd (by omega) a hal (Lib.hid hHL) (Lib.hid hVe) (by omega) ea (by split <;> exact invalid_of (by omega))

/-- the reference's Parse -/
theorem refparse_any (s : ByteArray) (w : World) (hs : s.size ≤ 40) :
    Calls Tryd.prog 26 #[.string s] w fun e w' => e = .returned (.tuple #[.int .i64 (codeP s.data.toList).1, .int .i64 (codeP s.data.toList).2]) ∧ Below w.heap.size w w' := by
  rw [← ref_code]
  rcases Nat.eq_zero_or_pos s.size with h0 | hpos
  · have e : refP s.data.toList = (0, 3) := by
      have : s.data.toList = [] := List.eq_nil_of_length_eq_zero (by simpa using h0)
      rw [this]; decide
    rw [e]; exact empty_way s w h0
  · by_cases h45 : s[0] = 45
    · have hS : Sg s (s.extract 1 s.size) true hpos := ⟨byte_is (n := 45) h45, rfl, hs⟩
      have e : refP s.data.toList = refT true (s.extract 1 s.size).data.toList := by
        unfold refP
        rw [if_pos (by rw [head_byte hpos, h45]), ext_drop, List.drop_one]
      rw [e]; exact ref_tail hS w
    · have hS : Sg s s false hpos := ⟨byte_not (n := 45) h45, rfl, hs⟩
      have e : refP s.data.toList = refT false s.data.toList := by
        unfold refP
        rw [if_neg (by rw [head_byte hpos]; simpa using h45)]
      rw [e]; exact ref_tail hS w
end Go.Proofs.YtokdeeplblaieaaDoor.Len
