/- The contract of length.Parse: what it reads from every text of up to 2000000000 bytes; nothing that lay in memory has turned. -/
import Derived.Test.YtokdeeplblaieaaDoorMathInv
import Derived.Test.YtokdeeplblaieaaDoorShelfParse
import Derived.Lib.SmallJoins
namespace Go.Proofs.YtokdeeplblaieaaDoor.Len
open Go Go.RowKit

theorem byte_take (s : ByteArray) (k : Nat) (h : k < s.size) : s.data.toList.take (k + 1) = s.data.toList.take k ++ [s[k]] := by
  rw [List.take_succ_eq_append_getElem (by simpa using h)]; rfl
theorem byte_in (s : ByteArray) (k : Nat) (h : k < s.size) : s[k] ∈ s.data.toList := by
  have : s[k] = s.data.toList[k]'(by simpa using h) := rfl
  rw [this]; exact List.getElem_mem _
theorem ret_bool {a b : Bool} (h : a = b) : Ending.returned (.bool a) = .returned (.bool b) := by rw [h]
/-- Digits, at least one. -/
def digitsB (l : List UInt8) : Bool := l.all isD && !l.isEmpty
theorem not_digit {c : UInt8} (h : (c.toNat : Int) < 48 ∨ 57 < (c.toNat : Int)) : isD c = false := by
  unfold isD; rw [decide_eq_false_iff_not]; omega
theorem is_digit {c : UInt8} (h1 : ¬ (c.toNat : Int) < 48) (h2 : ¬ 57 < (c.toNat : Int)) : isD c = true := by
  unfold isD; rw [decide_eq_true_eq]; omega

theorem digits_any (s : ByteArray) (w : World) (hs : s.size ≤ 9223372036854775807) :
    Calls Tryd.prog 49 #[.string s] w fun e w' => e = .returned (.bool (digitsB s.data.toList)) ∧ w' = w := by
  go_enter Tryd.func49, Tryd.ntmps49
  go_wp2
  go_loop [6] (fun i => ∃ k : Nat, k ≤ s.size ∧ i = .int .i64 k ∧ (s.data.toList.take k).all isD = true) (fun i => s.size - (intOf i).toNat)
  case atStart => exact ⟨0, Nat.zero_le _, rfl, rfl⟩
  case round =>
    obtain ⟨k, hk, rfl, hall⟩ := hrel
    have HA := Lib.hid hall
    clear hall
    by_cases hlt : k < s.size
    · by_cases h1 : (s[k].toNat : Int) < 48
      · have fin : Hid (digitsB s.data.toList = false) := Lib.hid (by
          unfold digitsB; rw [Bool.and_eq_false_iff]; left
          exact List.all_eq_false.2 ⟨s[k], byte_in s k hlt, by rw [not_digit (.inl h1)]; simp⟩)
        go_wp2
        go_ret
        exact ⟨ret_bool fin.out.symm, rfl⟩
      · by_cases h2 : 57 < (s[k].toNat : Int)
        · have fin : Hid (digitsB s.data.toList = false) := Lib.hid (by
            unfold digitsB; rw [Bool.and_eq_false_iff]; left
            exact List.all_eq_false.2 ⟨s[k], byte_in s k hlt, by rw [not_digit (.inr h2)]; simp⟩)
          go_wp2
          go_ret
          exact ⟨ret_bool fin.out.symm, rfl⟩
        · have nxt : Hid ((s.data.toList.take (k + 1)).all isD = true) := Lib.hid (by rw [byte_take s k hlt, List.all_append, HA.out]; simp [is_digit h1 h2])
          go_wp2
          go_round
          case rel => exact ⟨k + 1, by omega, by go_num, nxt.out⟩
          case measure => simp [intOf]; omega
    · have hall : s.data.toList.all isD = true := by
        have := HA.out
        rwa [List.take_of_length_le (by simp; omega)] at this
      have fin : Hid (digitsB s.data.toList = !s.data.toList.isEmpty) := Lib.hid (by unfold digitsB; rw [hall]; rfl)
      clear hall
      go_wp2
      go_ret
      exact ⟨ret_bool (by rw [fin.out, ByteArray.toList_eq]), rfl⟩

theorem size_pos {s : ByteArray} (hd : digitsB s.data.toList = true) : 0 < s.size := by
  unfold digitsB at hd
  simp only [Bool.and_eq_true] at hd
  rcases Nat.eq_zero_or_pos s.size with h | h
  · have : s.data.toList = [] := List.eq_nil_of_length_eq_zero (by simpa using h)
    rw [this] at hd; simp at hd
  · exact h
theorem head_byte {s : ByteArray} (h : 0 < s.size) : s.data.toList.head? = some s[0] := by
  rw [List.head?_eq_getElem?, List.getElem?_eq_getElem (by simpa using h)]; rfl
theorem last_byte {s : ByteArray} (h : 0 < s.size) : s.data.toList.getLast? = some (s[s.size - 1]'(by omega)) := by
  rw [List.getLast?_eq_getElem?]
  have hl : s.data.toList.length = s.size := by simp
  rw [List.getElem?_eq_getElem (by omega)]
  simp only [hl]
  rfl
theorem byte_ne (c : UInt8) : ((c.toNat : Int) != 48) = (some c != some 48) := by
  rw [Bool.eq_iff_iff, bne_iff_ne, bne_iff_ne]
  constructor
  · intro h e
    injection e with e
    subst e
    exact h rfl
  · intro h e
    exact h (congrArg some (UInt8.toNat_inj.1 (show c.toNat = 48 by omega)))

theorem whole_any (s : ByteArray) (w : World) (hs : s.size ≤ 9223372036854775807) :
    Calls Tryd.prog 35 #[.string s] w fun e w' => e = .returned (.bool (wholeOk s.data.toList)) ∧ w' = w := by
  cases hd : digitsB s.data.toList with
  | false =>
    have fin : Hid (wholeOk s.data.toList = false) := Lib.hid (by unfold wholeOk; unfold digitsB at hd; rw [hd]; rfl)
    go_enter Tryd.func35, Tryd.ntmps35
    go_wp2_with (go_at_call 49; refine (digits_any _ _ hs).mono ?_; rintro e w' ⟨rfl, rfl⟩)
    go_ret
    exact ⟨ret_bool fin.out.symm, rfl⟩
  | true =>
    have h0 := size_pos hd
    have fin : Hid (wholeOk s.data.toList = (s.toList == [48] || (s[0].toNat : Int) != 48)) := Lib.hid (by
      unfold wholeOk; unfold digitsB at hd; rw [hd, head_byte h0, byte_ne, ByteArray.toList_eq]; rfl)
    have HD := Lib.hid hd
    clear hd
    go_enter Tryd.func35, Tryd.ntmps35
    go_wp2_with (go_at_call 49; refine (digits_any _ _ hs).mono ?_; rintro e w' ⟨rfl, rfl⟩; rw [HD.out])
    · go_ret
      have h1 : s.toList = [48] := by assumption
      exact ⟨ret_bool (by rw [fin.out, h1]; rfl), rfl⟩
    · go_ret
      exact ⟨ret_bool fin.out.symm, rfl⟩

theorem rest_any (s : ByteArray) (w : World) (hs : s.size ≤ 9223372036854775807) :
    Calls Tryd.prog 36 #[.string s] w fun e w' => e = .returned (.bool (restOk s.data.toList)) ∧ w' = w := by
  have hsz : s.data.toList.length = s.size := by simp
  cases hd : digitsB s.data.toList with
  | false =>
    have fin : Hid (restOk s.data.toList = false) := Lib.hid (by unfold restOk; unfold digitsB at hd; rw [hd]; rfl)
    clear hsz
    go_enter Tryd.func36, Tryd.ntmps36
    go_wp2_with (go_at_call 49; refine (digits_any _ _ hs).mono ?_; rintro e w' ⟨rfl, rfl⟩)
    go_ret
    exact ⟨ret_bool fin.out.symm, rfl⟩
  | true =>
    have h0 := size_pos hd
    by_cases h3 : s.size ≤ 3
    · have fin : Hid (restOk s.data.toList = (((s[s.size - 1]'(Nat.sub_lt h0 Nat.one_pos)).toNat : Int) != 48)) := Lib.hid (by
        unfold restOk; unfold digitsB at hd; rw [hd, last_byte h0, byte_ne, hsz, decide_eq_true h3]; rfl)
      have HD := Lib.hid hd
      clear hd hsz
      go_enter Tryd.func36, Tryd.ntmps36
      go_wp2_with (go_at_call 49; refine (digits_any _ _ hs).mono ?_; rintro e w' ⟨rfl, rfl⟩; rw [HD.out])
      go_ret
      exact ⟨ret_bool fin.out.symm, rfl⟩
    · have fin : Hid (restOk s.data.toList = false) := Lib.hid (by
        unfold restOk; rw [hsz, decide_eq_false h3]; simp)
      have HD := Lib.hid hd
      clear hd hsz
      go_enter Tryd.func36, Tryd.ntmps36
      go_wp2_with (go_at_call 49; refine (digits_any _ _ hs).mono ?_; rintro e w' ⟨rfl, rfl⟩; rw [HD.out])
      go_ret
      exact ⟨ret_bool fin.out.symm, rfl⟩

/-- What length.Parse reads of memory: strconv's table, a variable of package bytealg, an error of package strconv. -/
structure PTabs (w : World) : Prop where
  tabs : Tabs w
  max : ∃ m : Int, w.cell? ⟨0, 0, none⟩ = some (.int .i64 m)
  err : ∃ tp p, w.var? Tryd.prog "strconv.ErrRange" = some #[.iface tp p]
theorem gErr : Tryd.prog.globalNamed "strconv.ErrRange" = some 2 := by kernel_rfl
theorem PTabs.below {w w' : World} (h : PTabs w) (hb : Below w.heap.size w w') : PTabs w' := by
  obtain ⟨m, hm⟩ := h.max
  obtain ⟨tp, p, hp⟩ := h.err
  refine ⟨h.tabs.below hb, ⟨m, (hb.cell (World.block_lt_of_cell? _ _ hm)).trans hm⟩, ⟨tp, p, var?_below hb gErr ?_ hp⟩⟩
  have hp' := hp
  unfold World.var? at hp'
  simp only [gErr, Option.bind_some] at hp'
  rcases Nat.lt_or_ge 2 w.heap.size with hl | hl
  · exact hl
  · rw [Array.getElem?_eq_none hl] at hp'; simp at hp'

theorem cutsuf (s : ByteArray) (w : World) (hs : s.size ≤ 9223372036854775807) :
    Calls Tryd.prog 32 #[.string s, .string ⟨#[112, 116]⟩] w fun e w' => e = .returned (.tuple #[.string ⟨(Lib.trimSuffix s.data.toList [112, 116]).toArray⟩, .bool (Lib.hasSuffix s.data.toList [112, 116])]) ∧ w' = w :=
  Tryd.strings_CutSuffix s ⟨#[112, 116]⟩ w hs
theorem cutpre (l : List UInt8) (w : World) :
    Calls Tryd.prog 33 #[.string ⟨l.toArray⟩, .string ⟨#[45]⟩] w fun e w' => e = .returned (.tuple #[.string ⟨(Lib.trimPrefix l [45]).toArray⟩, .bool (Lib.hasPrefix l [45])]) ∧ w' = w :=
  Tryd.strings_CutPrefix ⟨l.toArray⟩ ⟨#[45]⟩ w
theorem cutat (l : List UInt8) (w : World) (hT : PTabs w) (hs : l.length < 4294967281) :
    Calls Tryd.prog 34 #[.string ⟨l.toArray⟩, .string ⟨#[46]⟩] w fun e w' => e = .returned (.tuple #[.string ⟨(Lib.cut l [46]).1.toArray⟩, .string ⟨(Lib.cut l [46]).2.1.toArray⟩, .bool (Lib.cut l [46]).2.2]) ∧ Below w.heap.size w w' := by
  obtain ⟨m, hm⟩ := hT.max
  exact (Tryd.strings_Cut ⟨l.toArray⟩ ⟨#[46]⟩ m w hs hm).mono fun e w' ⟨he, n, hw⟩ => ⟨he, by rw [hw]; exact below_drewN (Below.refl _ _) n⟩
theorem atoi_ok (s : ByteArray) (l : List UInt8) (w : World) (hl : s.data.toList = l) (hs : s.size ≤ 9223372036854775806) (hd : l.all isD = true) (hne : l ≠ []) (hv : num l < 9223372036854775808) :
    Calls Tryd.prog 37 #[.string s] w fun e w' => e = .returned (.tuple #[.int .i64 (num l : Int), .nilIface]) ∧ Below w.heap.size w w' := by
  refine (Tryd.strconv_Atoi_ok s hs (num l : Int) (by rw [hl, atoi_digits hd hne, if_pos hv]) w).mono fun e w' ⟨he, hw⟩ => ⟨he, ?_⟩
  rcases hw with rfl | ⟨t, rfl⟩
  · exact Below.refl _ _
  · exact Joins.below_bytesWorld _ _ _ _ (Nat.le_refl _)
def Refused (w : World) (e : Ending) (w' : World) : Prop := ∃ v x y, e = .returned (.tuple #[.int .i64 v, .iface x y]) ∧ Below w.heap.size w w'
theorem atoi_range (s : ByteArray) (l : List UInt8) (w : World) (hT : PTabs w) (hl : s.data.toList = l) (hs : s.size ≤ 281474976710656) (hd : l.all isD = true) (hne : l ≠ []) (hv : ¬ num l < 9223372036854775808) :
    Calls Tryd.prog 37 #[.string s] w (Refused w) := by
  obtain ⟨tp, p, hp⟩ := hT.err
  exact (Tryd.strconv_Atoi_range_var s hs (by rw [hl, atoi_digits hd hne, if_neg hv]) tp p w hp).mono fun e w' ⟨N, he, _, _, hb⟩ => ⟨_, _, _, he, hb⟩

theorem ret_parse {l : List UInt8} {a b : Int} (h : codeP l = (a, b)) : Ending.returned (.tuple #[.int .i64 a, .int .i64 b]) = .returned (.tuple #[.int .i64 (codeP l).1, .int .i64 (codeP l).2]) := by rw [h]

/-- The three cuts that length.Parse begins with: what they give for this text. -/
structure Cuts (s : ByteArray) (A B D F : List UInt8) (hu neg hr : Bool) : Prop where
  e1 : Lib.trimSuffix s.data.toList [112, 116] = A
  e2 : Lib.hasSuffix s.data.toList [112, 116] = hu
  e3 : Lib.trimPrefix A [45] = B
  e4 : Lib.hasPrefix A [45] = neg
  e5 : Lib.cut B [46] = (D, F, hr)
  size : s.size ≤ 2000000000
section
variable {s : ByteArray} {A B D F : List UInt8} {hu neg hr : Bool}
theorem Cuts.lenA (h : Cuts s A B D F hu neg hr) : A.length ≤ 2000000000 := by
  have h1 := h.size
  have h2 : s.data.toList.length = s.size := by simp
  rw [← h.e1]; unfold Lib.trimSuffix
  split
  · rw [List.length_take]; omega
  · omega
theorem Cuts.lenB (h : Cuts s A B D F hu neg hr) : B.length ≤ 2000000000 := by
  have h1 := h.lenA
  rw [← h.e3]; unfold Lib.trimPrefix
  split
  · rw [List.length_drop]; omega
  · omega
theorem Cuts.lens (h : Cuts s A B D F hu neg hr) : D.length ≤ 2000000000 ∧ F.length ≤ 2000000000 := by
  have h1 := h.lenB
  have h2 := cut_form B
  rw [h.e5] at h2
  rcases h2 with ⟨_, e⟩ | ⟨_, e, e'⟩
  · have := congrArg List.length e
    simp at this
    omega
  · simp only at e e'
    subst e; subst e'
    exact ⟨h1, by simp⟩
theorem Cuts.suf (h : Cuts s A B D F hu neg hr) (w : World) :
    Calls Tryd.prog 32 #[.string s, .string ⟨#[112, 116]⟩] w fun e w' => e = .returned (.tuple #[.string ⟨A.toArray⟩, .bool hu]) ∧ w' = w := by
  have := cutsuf s w (by have := h.size; omega)
  rw [h.e1, h.e2] at this
  exact this
theorem Cuts.pre (h : Cuts s A B D F hu neg hr) (w : World) :
    Calls Tryd.prog 33 #[.string ⟨A.toArray⟩, .string ⟨#[45]⟩] w fun e w' => e = .returned (.tuple #[.string ⟨B.toArray⟩, .bool neg]) ∧ w' = w := by
  have := cutpre A w
  rw [h.e3, h.e4] at this
  exact this
theorem Cuts.at_ (h : Cuts s A B D F hu neg hr) (w : World) (hT : PTabs w) :
    Calls Tryd.prog 34 #[.string ⟨B.toArray⟩, .string ⟨#[46]⟩] w fun e w' => e = .returned (.tuple #[.string ⟨D.toArray⟩, .string ⟨F.toArray⟩, .bool hr]) ∧ Below w.heap.size w w' := by
  have := cutat B w hT (by have := h.lenB; omega)
  rw [h.e5] at this
  exact this
theorem whole_l (l : List UInt8) (w : World) (hs : l.length ≤ 2000000000) :
    Calls Tryd.prog 35 #[.string ⟨l.toArray⟩] w fun e w' => e = .returned (.bool (wholeOk l)) ∧ w' = w := whole_any ⟨l.toArray⟩ w (by show l.length ≤ _; omega)
theorem rest_l (l : List UInt8) (w : World) (hs : l.length ≤ 2000000000) :
    Calls Tryd.prog 36 #[.string ⟨l.toArray⟩] w fun e w' => e = .returned (.bool (restOk l)) ∧ w' = w := rest_any ⟨l.toArray⟩ w (by show l.length ≤ _; omega)
theorem Cuts.bad (h : Cuts s A B D F hu neg hr) (hb : hu = false ∨ wholeOk D = false ∨ (hr = true ∧ restOk F = false)) : codeP s.data.toList = (0, 3) := by
  unfold codeP; simp only
  rw [h.e1, h.e2, h.e3, h.e5, if_pos hb]
theorem Cuts.zero (h : Cuts s A B D F hu neg hr) (hb : ¬ (hu = false ∨ wholeOk D = false ∨ (hr = true ∧ restOk F = false))) (hz : neg = true ∧ B = [48]) : codeP s.data.toList = (0, 3) := by
  unfold codeP; simp only
  rw [h.e1, h.e2, h.e3, h.e4, h.e5, if_neg hb, if_pos hz]
theorem Cuts.good (h : Cuts s A B D F hu neg hr) (hb : ¬ (hu = false ∨ wholeOk D = false ∨ (hr = true ∧ restOk F = false))) (hz : ¬ (neg = true ∧ B = [48])) : codeP s.data.toList = finP neg D F := by
  unfold codeP; simp only
  rw [h.e1, h.e2, h.e3, h.e4, h.e5, if_neg hb, if_neg hz]

/-- No text: refused. -/
theorem parse_bad (w : World) (hT : PTabs w) (h : Cuts s A B D F hu neg hr) (hb : hu = false ∨ wholeOk D = false ∨ (hr = true ∧ restOk F = false)) :
    Calls Tryd.prog 24 #[.string s] w fun e w' => e = .returned (.tuple #[.int .i64 (codeP s.data.toList).1, .int .i64 (codeP s.data.toList).2]) ∧ Below w.heap.size w w' := by
  have fin := Lib.hid (h.bad hb)
  have HC := Lib.hid h
  have hls := h.lens
  obtain ⟨hl1, hl2⟩ := hls
  clear h
  cases hu <;> cases hv : wholeOk D <;> cases hr <;> cases hf : restOk F
  all_goals first
    | (exfalso; simp [hv, hf] at hb; done)
    | (clear hb
       go_enter Tryd.func24, Tryd.ntmps24
       go_wp2_with fail
       refine (HC.out.suf _).mono ?_
       rintro e w1 ⟨rfl, rfl⟩
       go_wp2_with fail
       refine (HC.out.pre _).mono ?_
       rintro e w2 ⟨rfl, rfl⟩
       go_wp2_with fail
       refine (HC.out.at_ _ hT).mono ?_
       rintro e w3 ⟨rfl, hB⟩
       go_wp2_with (first
         | (go_at_call 35; refine (whole_l _ _ hl1).mono ?_; rintro e w' ⟨rfl, rfl⟩)
         | (go_at_call 36; refine (rest_l _ _ hl2).mono ?_; rintro e w' ⟨rfl, rfl⟩))
       go_ret2
       exact ⟨ret_parse fin.out, hB⟩)

theorem str_eq (l m : List UInt8) : ((⟨l.toArray⟩ : ByteArray).toList == m) = (l == m) := by rw [ByteArray.toList_eq]

/-- -0pt: refused. -/
theorem parse_zero (w : World) (hT : PTabs w) (h : Cuts s A B D F hu neg hr) (hu1 : hu = true) (hv : wholeOk D = true) (hn : neg = true) (hB : B = [48]) :
    Calls Tryd.prog 24 #[.string s] w fun e w' => e = .returned (.tuple #[.int .i64 (codeP s.data.toList).1, .int .i64 (codeP s.data.toList).2]) ∧ Below w.heap.size w w' := by
  subst hu1; subst hn; subst hB
  have e5 := h.e5
  rw [cut_none [48] (by decide)] at e5
  injection e5 with e6 e7
  injection e7 with e7 e8
  subst e6; subst e7; subst e8
  have fin := Lib.hid (h.zero (by simp [hv]) ⟨rfl, rfl⟩)
  have HC := Lib.hid h
  clear h
  have hz : ((⟨[48].toArray⟩ : ByteArray).toList == [48]) = true := by rw [str_eq]; rfl
  go_enter Tryd.func24, Tryd.ntmps24
  go_wp2_with fail
  refine (HC.out.suf _).mono ?_
  rintro e w1 ⟨rfl, rfl⟩
  go_wp2_with fail
  refine (HC.out.pre _).mono ?_
  rintro e w2 ⟨rfl, rfl⟩
  go_wp2_with fail
  refine (HC.out.at_ _ hT).mono ?_
  rintro e w3 ⟨rfl, hB⟩
  go_wp2_with (go_at_call 35; refine (whole_l _ _ (by simp)).mono ?_; rintro e w' ⟨rfl, rfl⟩)
  go_ret2
  exact ⟨ret_parse fin.out, hB⟩

theorem catD (D F : List UInt8) : (({ data := D.toArray } : ByteArray) ++ (({ data := F.toArray } : ByteArray) ++ { data := #[48, 48, 48] }).extract 0 3).data.toList = D ++ (F ++ [48, 48, 48]).take 3 := by
  rw [ByteArray.data_append, Array.toList_append, ByteArray.data_extract, Array.toList_extract, List.extract_eq_take_drop, ByteArray.data_append, Array.toList_append]
  simp
theorem catD_size (D F : List UInt8) (hD : D.length ≤ 2000000000) : (({ data := D.toArray } : ByteArray) ++ (({ data := F.toArray } : ByteArray) ++ { data := #[48, 48, 48] }).extract 0 3).size ≤ 2000000003 := by
  have h := congrArg List.length (catD D F)
  rw [List.length_append, List.length_take, Array.length_toList] at h
  exact Nat.le_trans (Nat.le_of_eq h) (by omega)
theorem fin_range {neg : Bool} {D F : List UInt8} (h : ¬ num (D ++ (F ++ [48, 48, 48]).take 3) ≤ 1073741824) : finP neg D F = (0, 2) := by rw [finP, if_neg h]
theorem fin_pos {D F : List UInt8} (h : num (D ++ (F ++ [48, 48, 48]).take 3) ≤ 1073741824) : finP false D F = ((num (D ++ (F ++ [48, 48, 48]).take 3) : Int), 0) := by rw [finP, if_pos h]; rfl
theorem fin_neg {D F : List UInt8} (h : num (D ++ (F ++ [48, 48, 48]).take 3) ≤ 1073741824) : finP true D F = (-(num (D ++ (F ++ [48, 48, 48]).take 3) : Int), 0) := by rw [finP, if_pos h]; rfl

theorem parse_false_range (w : World) (hT : PTabs w) (h : Cuts s A B D F true false hr) (hv : wholeOk D = true) (hf : hr = true → restOk F = true) (hF : F.length ≤ 3) (hd : (D ++ (F ++ [48, 48, 48]).take 3).all isD = true) (hV : ¬ num (D ++ (F ++ [48, 48, 48]).take 3) < 9223372036854775808) :
    Calls Tryd.prog 24 #[.string s] w fun e w' => e = .returned (.tuple #[.int .i64 (codeP s.data.toList).1, .int .i64 (codeP s.data.toList).2]) ∧ Below w.heap.size w w' := by
  have hb : ¬ (true = false ∨ wholeOk D = false ∨ (hr = true ∧ restOk F = false)) := fun hh => by
    rcases hh with hh | hh | hh
    · cases hh
    · rw [hv] at hh; cases hh
    · rw [hf hh.1] at hh; cases hh.2
  have fin := Lib.hid ((h.good hb (fun hh => by cases hh.1)).trans (fin_range (by omega)))
  have HC := Lib.hid h
  have hls := h.lens
  obtain ⟨hl1, hl2⟩ := hls
  have hsz := catD_size D F hl1
  have hne : D ++ (F ++ [48, 48, 48]).take 3 ≠ [] := fun e => whole_ne hv (List.append_eq_nil_iff.1 e).1
  have HA : Hid (∀ W : World, PTabs W → Calls Tryd.prog 37 #[.string (({ data := D.toArray } : ByteArray) ++ (({ data := F.toArray } : ByteArray) ++ { data := #[48, 48, 48] }).extract 0 3)] W (Refused W)) := Lib.hid fun W hW => atoi_range _ _ W hW (catD D F) (by omega) hd hne hV
  clear hV
  have hfr : hr = false ∨ restOk F = true := by cases hr with | false => exact .inl rfl | true => exact .inr (hf rfl)
  clear h hd hne hsz hb hf
  cases hr
  all_goals
    first
      | (have hrest : restOk F = true := by
           rcases hfr with hh | hh
           · cases hh
           · exact hh)
      | skip
    clear hfr
    go_enter Tryd.func24, Tryd.ntmps24
    go_wp2_with fail
    refine (HC.out.suf _).mono ?_
    rintro e w1 ⟨rfl, rfl⟩
    go_wp2_with fail
    refine (HC.out.pre _).mono ?_
    rintro e w2 ⟨rfl, rfl⟩
    go_wp2_with fail
    refine (HC.out.at_ _ hT).mono ?_
    rintro e w3 ⟨rfl, hB⟩
    have hT3 := hT.below hB
    go_wp2_with (first
      | (go_at_call 35; refine (whole_l _ _ hl1).mono ?_; rintro e w' ⟨rfl, rfl⟩)
      | (go_at_call 36; refine (rest_l _ _ hl2).mono ?_; rintro e w' ⟨rfl, rfl⟩))
    refine (HA.out _ hT3).mono ?_
    rintro e w4 ⟨v, x, y, rfl, hB4⟩
    go_wp2_with fail
    go_ret2
    exact ⟨ret_parse fin.out, hB.trans (hB4.mono hB.size)⟩

theorem parse_false_big (w : World) (hT : PTabs w) (h : Cuts s A B D F true false hr) (hv : wholeOk D = true) (hf : hr = true → restOk F = true) (hF : F.length ≤ 3) (hd : (D ++ (F ++ [48, 48, 48]).take 3).all isD = true) (hV : num (D ++ (F ++ [48, 48, 48]).take 3) < 9223372036854775808) (hW : ¬ num (D ++ (F ++ [48, 48, 48]).take 3) ≤ 1073741824) :
    Calls Tryd.prog 24 #[.string s] w fun e w' => e = .returned (.tuple #[.int .i64 (codeP s.data.toList).1, .int .i64 (codeP s.data.toList).2]) ∧ Below w.heap.size w w' := by
  have hb : ¬ (true = false ∨ wholeOk D = false ∨ (hr = true ∧ restOk F = false)) := fun hh => by
    rcases hh with hh | hh | hh
    · cases hh
    · rw [hv] at hh; cases hh
    · rw [hf hh.1] at hh; cases hh.2
  have fin := Lib.hid ((h.good hb (fun hh => by cases hh.1)).trans (fin_range hW))
  have HC := Lib.hid h
  have hls := h.lens
  obtain ⟨hl1, hl2⟩ := hls
  have hsz := catD_size D F hl1
  have hne : D ++ (F ++ [48, 48, 48]).take 3 ≠ [] := fun e => whole_ne hv (List.append_eq_nil_iff.1 e).1
  have HA : Hid (∀ W : World, Calls Tryd.prog 37 #[.string (({ data := D.toArray } : ByteArray) ++ (({ data := F.toArray } : ByteArray) ++ { data := #[48, 48, 48] }).extract 0 3)] W fun e w' => e = .returned (.tuple #[.int .i64 (num (D ++ (F ++ [48, 48, 48]).take 3) : Int), .nilIface]) ∧ Below W.heap.size W w') := Lib.hid fun W => atoi_ok _ _ W (catD D F) (by omega) hd hne hV
  have hval : validZ (num (D ++ (F ++ [48, 48, 48]).take 3) : Int) = false := invalid_of (.inr (by omega))
  generalize num (D ++ (F ++ [48, 48, 48]).take 3) = V at *
  have hfr : hr = false ∨ restOk F = true := by cases hr with | false => exact .inl rfl | true => exact .inr (hf rfl)
  clear h hd hne hsz hb hf
  cases hr
  all_goals
    first
      | (have hrest : restOk F = true := by
           rcases hfr with hh | hh
           · cases hh
           · exact hh)
      | skip
    clear hfr
    go_enter Tryd.func24, Tryd.ntmps24
    go_wp2_with fail
    refine (HC.out.suf _).mono ?_
    rintro e w1 ⟨rfl, rfl⟩
    go_wp2_with fail
    refine (HC.out.pre _).mono ?_
    rintro e w2 ⟨rfl, rfl⟩
    go_wp2_with fail
    refine (HC.out.at_ _ hT).mono ?_
    rintro e w3 ⟨rfl, hB⟩
    have hT3 := hT.below hB
    go_wp2_with (first
      | (go_at_call 35; refine (whole_l _ _ hl1).mono ?_; rintro e w' ⟨rfl, rfl⟩)
      | (go_at_call 36; refine (rest_l _ _ hl2).mono ?_; rintro e w' ⟨rfl, rfl⟩))
    refine (HA.out _).mono ?_
    rintro e w4 ⟨rfl, hB4⟩
    go_wp2_with (go_at_call 11; refine (valid_any _ _).mono ?_; rintro e w' ⟨rfl, rfl⟩)
    go_ret2
    exact ⟨ret_parse fin.out, hB.trans (hB4.mono hB.size)⟩

theorem parse_false_ok (w : World) (hT : PTabs w) (h : Cuts s A B D F true false hr) (hv : wholeOk D = true) (hf : hr = true → restOk F = true) (hF : F.length ≤ 3) (hd : (D ++ (F ++ [48, 48, 48]).take 3).all isD = true) (hW : num (D ++ (F ++ [48, 48, 48]).take 3) ≤ 1073741824) :
    Calls Tryd.prog 24 #[.string s] w fun e w' => e = .returned (.tuple #[.int .i64 (codeP s.data.toList).1, .int .i64 (codeP s.data.toList).2]) ∧ Below w.heap.size w w' := by
  have hb : ¬ (true = false ∨ wholeOk D = false ∨ (hr = true ∧ restOk F = false)) := fun hh => by
    rcases hh with hh | hh | hh
    · cases hh
    · rw [hv] at hh; cases hh
    · rw [hf hh.1] at hh; cases hh.2
  have fin := Lib.hid ((h.good hb (fun hh => by cases hh.1)).trans (fin_pos hW))
  have HC := Lib.hid h
  have hls := h.lens
  obtain ⟨hl1, hl2⟩ := hls
  have hsz := catD_size D F hl1
  have hne : D ++ (F ++ [48, 48, 48]).take 3 ≠ [] := fun e => whole_ne hv (List.append_eq_nil_iff.1 e).1
  have hV : num (D ++ (F ++ [48, 48, 48]).take 3) < 9223372036854775808 := by omega
  have HA : Hid (∀ W : World, Calls Tryd.prog 37 #[.string (({ data := D.toArray } : ByteArray) ++ (({ data := F.toArray } : ByteArray) ++ { data := #[48, 48, 48] }).extract 0 3)] W fun e w' => e = .returned (.tuple #[.int .i64 (num (D ++ (F ++ [48, 48, 48]).take 3) : Int), .nilIface]) ∧ Below W.heap.size W w') := Lib.hid fun W => atoi_ok _ _ W (catD D F) (by omega) hd hne hV
  have hval : validZ (num (D ++ (F ++ [48, 48, 48]).take 3) : Int) = true := valid_of (by omega) (by omega)
  generalize num (D ++ (F ++ [48, 48, 48]).take 3) = V at *
  have hfr : hr = false ∨ restOk F = true := by cases hr with | false => exact .inl rfl | true => exact .inr (hf rfl)
  clear h hd hne hsz hb hf
  cases hr
  all_goals
    first
      | (have hrest : restOk F = true := by
           rcases hfr with hh | hh
           · cases hh
           · exact hh)
      | skip
    clear hfr
    go_enter Tryd.func24, Tryd.ntmps24
    go_wp2_with fail
    refine (HC.out.suf _).mono ?_
    rintro e w1 ⟨rfl, rfl⟩
    go_wp2_with fail
    refine (HC.out.pre _).mono ?_
    rintro e w2 ⟨rfl, rfl⟩
    go_wp2_with fail
    refine (HC.out.at_ _ hT).mono ?_
    rintro e w3 ⟨rfl, hB⟩
    have hT3 := hT.below hB
    go_wp2_with (first
      | (go_at_call 35; refine (whole_l _ _ hl1).mono ?_; rintro e w' ⟨rfl, rfl⟩)
      | (go_at_call 36; refine (rest_l _ _ hl2).mono ?_; rintro e w' ⟨rfl, rfl⟩))
    refine (HA.out _).mono ?_
    rintro e w4 ⟨rfl, hB4⟩
    go_wp2_with (go_at_call 11; refine (valid_any _ _).mono ?_; rintro e w' ⟨rfl, rfl⟩)
    go_ret2
    exact ⟨ret_parse fin.out, hB.trans (hB4.mono hB.size)⟩

theorem parse_true_range (w : World) (hT : PTabs w) (h : Cuts s A B D F true true hr) (hv : wholeOk D = true) (hf : hr = true → restOk F = true) (hz : ¬ B = [48]) (hF : F.length ≤ 3) (hd : (D ++ (F ++ [48, 48, 48]).take 3).all isD = true) (hV : ¬ num (D ++ (F ++ [48, 48, 48]).take 3) < 9223372036854775808) :
    Calls Tryd.prog 24 #[.string s] w fun e w' => e = .returned (.tuple #[.int .i64 (codeP s.data.toList).1, .int .i64 (codeP s.data.toList).2]) ∧ Below w.heap.size w w' := by
  have hb : ¬ (true = false ∨ wholeOk D = false ∨ (hr = true ∧ restOk F = false)) := fun hh => by
    rcases hh with hh | hh | hh
    · cases hh
    · rw [hv] at hh; cases hh
    · rw [hf hh.1] at hh; cases hh.2
  have fin := Lib.hid ((h.good hb (fun hh => hz hh.2)).trans (fin_range (by omega)))
  have HC := Lib.hid h
  have hls := h.lens
  obtain ⟨hl1, hl2⟩ := hls
  have hsz := catD_size D F hl1
  have hne : D ++ (F ++ [48, 48, 48]).take 3 ≠ [] := fun e => whole_ne hv (List.append_eq_nil_iff.1 e).1
  have hcase : (B == [48]) = false := by simpa using hz
  have HA : Hid (∀ W : World, PTabs W → Calls Tryd.prog 37 #[.string (({ data := D.toArray } : ByteArray) ++ (({ data := F.toArray } : ByteArray) ++ { data := #[48, 48, 48] }).extract 0 3)] W (Refused W)) := Lib.hid fun W hW => atoi_range _ _ W hW (catD D F) (by omega) hd hne hV
  clear hV
  have hfr : hr = false ∨ restOk F = true := by cases hr with | false => exact .inl rfl | true => exact .inr (hf rfl)
  clear h hz hd hne hsz hb hf
  cases hr
  all_goals
    first
      | (have hrest : restOk F = true := by
           rcases hfr with hh | hh
           · cases hh
           · exact hh)
      | skip
    clear hfr
    go_enter Tryd.func24, Tryd.ntmps24
    go_wp2_with fail
    refine (HC.out.suf _).mono ?_
    rintro e w1 ⟨rfl, rfl⟩
    go_wp2_with fail
    refine (HC.out.pre _).mono ?_
    rintro e w2 ⟨rfl, rfl⟩
    go_wp2_with fail
    refine (HC.out.at_ _ hT).mono ?_
    rintro e w3 ⟨rfl, hB⟩
    have hT3 := hT.below hB
    go_wp2_with (first
      | (go_at_call 35; refine (whole_l _ _ hl1).mono ?_; rintro e w' ⟨rfl, rfl⟩)
      | (go_at_call 36; refine (rest_l _ _ hl2).mono ?_; rintro e w' ⟨rfl, rfl⟩))
    refine (HA.out _ hT3).mono ?_
    rintro e w4 ⟨v, x, y, rfl, hB4⟩
    go_wp2_with fail
    go_ret2
    exact ⟨ret_parse fin.out, hB.trans (hB4.mono hB.size)⟩

theorem parse_true_big (w : World) (hT : PTabs w) (h : Cuts s A B D F true true hr) (hv : wholeOk D = true) (hf : hr = true → restOk F = true) (hz : ¬ B = [48]) (hF : F.length ≤ 3) (hd : (D ++ (F ++ [48, 48, 48]).take 3).all isD = true) (hV : num (D ++ (F ++ [48, 48, 48]).take 3) < 9223372036854775808) (hW : ¬ num (D ++ (F ++ [48, 48, 48]).take 3) ≤ 1073741824) :
    Calls Tryd.prog 24 #[.string s] w fun e w' => e = .returned (.tuple #[.int .i64 (codeP s.data.toList).1, .int .i64 (codeP s.data.toList).2]) ∧ Below w.heap.size w w' := by
  have hb : ¬ (true = false ∨ wholeOk D = false ∨ (hr = true ∧ restOk F = false)) := fun hh => by
    rcases hh with hh | hh | hh
    · cases hh
    · rw [hv] at hh; cases hh
    · rw [hf hh.1] at hh; cases hh.2
  have fin := Lib.hid ((h.good hb (fun hh => hz hh.2)).trans (fin_range hW))
  have HC := Lib.hid h
  have hls := h.lens
  obtain ⟨hl1, hl2⟩ := hls
  have hsz := catD_size D F hl1
  have hne : D ++ (F ++ [48, 48, 48]).take 3 ≠ [] := fun e => whole_ne hv (List.append_eq_nil_iff.1 e).1
  have hcase : (B == [48]) = false := by simpa using hz
  have HA : Hid (∀ W : World, Calls Tryd.prog 37 #[.string (({ data := D.toArray } : ByteArray) ++ (({ data := F.toArray } : ByteArray) ++ { data := #[48, 48, 48] }).extract 0 3)] W fun e w' => e = .returned (.tuple #[.int .i64 (num (D ++ (F ++ [48, 48, 48]).take 3) : Int), .nilIface]) ∧ Below W.heap.size W w') := Lib.hid fun W => atoi_ok _ _ W (catD D F) (by omega) hd hne hV
  have hval : validZ (num (D ++ (F ++ [48, 48, 48]).take 3) : Int) = false := invalid_of (.inr (by omega))
  generalize num (D ++ (F ++ [48, 48, 48]).take 3) = V at *
  have hfr : hr = false ∨ restOk F = true := by cases hr with | false => exact .inl rfl | true => exact .inr (hf rfl)
  clear h hz hd hne hsz hb hf
  cases hr
  all_goals
    first
      | (have hrest : restOk F = true := by
           rcases hfr with hh | hh
           · cases hh
           · exact hh)
      | skip
    clear hfr
    go_enter Tryd.func24, Tryd.ntmps24
    go_wp2_with fail
    refine (HC.out.suf _).mono ?_
    rintro e w1 ⟨rfl, rfl⟩
    go_wp2_with fail
    refine (HC.out.pre _).mono ?_
    rintro e w2 ⟨rfl, rfl⟩
    go_wp2_with fail
    refine (HC.out.at_ _ hT).mono ?_
    rintro e w3 ⟨rfl, hB⟩
    have hT3 := hT.below hB
    go_wp2_with (first
      | (go_at_call 35; refine (whole_l _ _ hl1).mono ?_; rintro e w' ⟨rfl, rfl⟩)
      | (go_at_call 36; refine (rest_l _ _ hl2).mono ?_; rintro e w' ⟨rfl, rfl⟩))
    refine (HA.out _).mono ?_
    rintro e w4 ⟨rfl, hB4⟩
    go_wp2_with (go_at_call 11; refine (valid_any _ _).mono ?_; rintro e w' ⟨rfl, rfl⟩)
    go_ret2
    exact ⟨ret_parse fin.out, hB.trans (hB4.mono hB.size)⟩

theorem parse_true_ok (w : World) (hT : PTabs w) (h : Cuts s A B D F true true hr) (hv : wholeOk D = true) (hf : hr = true → restOk F = true) (hz : ¬ B = [48]) (hF : F.length ≤ 3) (hd : (D ++ (F ++ [48, 48, 48]).take 3).all isD = true) (hW : num (D ++ (F ++ [48, 48, 48]).take 3) ≤ 1073741824) :
    Calls Tryd.prog 24 #[.string s] w fun e w' => e = .returned (.tuple #[.int .i64 (codeP s.data.toList).1, .int .i64 (codeP s.data.toList).2]) ∧ Below w.heap.size w w' := by
  have hb : ¬ (true = false ∨ wholeOk D = false ∨ (hr = true ∧ restOk F = false)) := fun hh => by
    rcases hh with hh | hh | hh
    · cases hh
    · rw [hv] at hh; cases hh
    · rw [hf hh.1] at hh; cases hh.2
  have fin := Lib.hid ((h.good hb (fun hh => hz hh.2)).trans (fin_neg hW))
  have HC := Lib.hid h
  have hls := h.lens
  obtain ⟨hl1, hl2⟩ := hls
  have hsz := catD_size D F hl1
  have hne : D ++ (F ++ [48, 48, 48]).take 3 ≠ [] := fun e => whole_ne hv (List.append_eq_nil_iff.1 e).1
  have hcase : (B == [48]) = false := by simpa using hz
  have hV : num (D ++ (F ++ [48, 48, 48]).take 3) < 9223372036854775808 := by omega
  have HA : Hid (∀ W : World, Calls Tryd.prog 37 #[.string (({ data := D.toArray } : ByteArray) ++ (({ data := F.toArray } : ByteArray) ++ { data := #[48, 48, 48] }).extract 0 3)] W fun e w' => e = .returned (.tuple #[.int .i64 (num (D ++ (F ++ [48, 48, 48]).take 3) : Int), .nilIface]) ∧ Below W.heap.size W w') := Lib.hid fun W => atoi_ok _ _ W (catD D F) (by omega) hd hne hV
  have hval : validZ (num (D ++ (F ++ [48, 48, 48]).take 3) : Int) = true := valid_of (by omega) (by omega)
  generalize num (D ++ (F ++ [48, 48, 48]).take 3) = V at *
  have hfr : hr = false ∨ restOk F = true := by cases hr with | false => exact .inl rfl | true => exact .inr (hf rfl)
  clear h hz hd hne hsz hb hf
  cases hr
  all_goals
    first
      | (have hrest : restOk F = true := by
           rcases hfr with hh | hh
           · cases hh
           · exact hh)
      | skip
    clear hfr
    go_enter Tryd.func24, Tryd.ntmps24
    go_wp2_with fail
    refine (HC.out.suf _).mono ?_
    rintro e w1 ⟨rfl, rfl⟩
    go_wp2_with fail
    refine (HC.out.pre _).mono ?_
    rintro e w2 ⟨rfl, rfl⟩
    go_wp2_with fail
    refine (HC.out.at_ _ hT).mono ?_
    rintro e w3 ⟨rfl, hB⟩
    have hT3 := hT.below hB
    go_wp2_with (first
      | (go_at_call 35; refine (whole_l _ _ hl1).mono ?_; rintro e w' ⟨rfl, rfl⟩)
      | (go_at_call 36; refine (rest_l _ _ hl2).mono ?_; rintro e w' ⟨rfl, rfl⟩))
    refine (HA.out _).mono ?_
    rintro e w4 ⟨rfl, hB4⟩
    go_wp2_with (go_at_call 11; refine (valid_any _ _).mono ?_; rintro e w' ⟨rfl, rfl⟩)
    go_ret2
    exact ⟨ret_parse fin.out, hB.trans (hB4.mono hB.size)⟩

end

/-- length.Parse, at every string of up to 2000000000 bytes. -/
theorem parse_any (s : ByteArray) (w : World) (hs : s.size ≤ 2000000000) (hT : PTabs w) :
    Calls Tryd.prog 24 #[.string s] w fun e w' => e = .returned (.tuple #[.int .i64 (codeP s.data.toList).1, .int .i64 (codeP s.data.toList).2]) ∧ Below w.heap.size w w' := by
  have hC : Cuts s (Lib.trimSuffix s.data.toList [112, 116]) (Lib.trimPrefix (Lib.trimSuffix s.data.toList [112, 116]) [45]) (Lib.cut (Lib.trimPrefix (Lib.trimSuffix s.data.toList [112, 116]) [45]) [46]).1
      (Lib.cut (Lib.trimPrefix (Lib.trimSuffix s.data.toList [112, 116]) [45]) [46]).2.1 (Lib.hasSuffix s.data.toList [112, 116]) (Lib.hasPrefix (Lib.trimSuffix s.data.toList [112, 116]) [45]) (Lib.cut (Lib.trimPrefix (Lib.trimSuffix s.data.toList [112, 116]) [45]) [46]).2.2 :=
    ⟨rfl, rfl, rfl, rfl, rfl, hs⟩
  generalize Lib.trimSuffix s.data.toList [112, 116] = A at hC
  generalize Lib.trimPrefix A [45] = B at hC
  have hcf := cut_form B
  generalize (Lib.cut B [46]).1 = D at hC hcf
  generalize (Lib.cut B [46]).2.1 = F at hC hcf
  generalize (Lib.cut B [46]).2.2 = hr at hC hcf
  generalize Lib.hasSuffix s.data.toList [112, 116] = hu at hC
  generalize Lib.hasPrefix A [45] = neg at hC
  by_cases hb : hu = false ∨ wholeOk D = false ∨ (hr = true ∧ restOk F = false)
  · exact parse_bad w hT hC hb
  · have hu1 : hu = true := by cases hu with | true => rfl | false => exact absurd (.inl rfl) hb
    have hv : wholeOk D = true := by
      cases hv : wholeOk D with
      | true => rfl
      | false => exact absurd (.inr (.inl hv)) hb
    have hf : hr = true → restOk F = true := fun e => by
      cases hf : restOk F with
      | true => rfl
      | false => exact absurd (.inr (.inr ⟨e, hf⟩)) hb
    by_cases hz : neg = true ∧ B = [48]
    · exact parse_zero w hT hC hu1 hv hz.1 hz.2
    · have hFd : F.length ≤ 3 ∧ F.all isD = true := by
        rcases hcf with ⟨e, _⟩ | ⟨_, _, e⟩
        · exact ⟨rest_len (hf e), rest_isD (hf e)⟩
        · rw [e]; exact ⟨by simp, rfl⟩
      have hd : (D ++ (F ++ [48, 48, 48]).take 3).all isD = true := by
        rw [List.all_append, whole_isD hv, three_digits hFd.1 hFd.2]; rfl
      subst hu1
      cases neg with
      | false =>
        by_cases hV : num (D ++ (F ++ [48, 48, 48]).take 3) < 9223372036854775808
        · by_cases hW : num (D ++ (F ++ [48, 48, 48]).take 3) ≤ 1073741824
          · exact parse_false_ok w hT hC hv hf hFd.1 hd hW
          · exact parse_false_big w hT hC hv hf hFd.1 hd hV hW
        · exact parse_false_range w hT hC hv hf hFd.1 hd hV
      | true =>
        have hz' : ¬ B = [48] := fun e => hz ⟨rfl, e⟩
        by_cases hV : num (D ++ (F ++ [48, 48, 48]).take 3) < 9223372036854775808
        · by_cases hW : num (D ++ (F ++ [48, 48, 48]).take 3) ≤ 1073741824
          · exact parse_true_ok w hT hC hv hf hz' hFd.1 hd hW
          · exact parse_true_big w hT hC hv hf hz' hFd.1 hd hV hW
        · exact parse_true_range w hT hC hv hf hz' hFd.1 hd hV
end Go.Proofs.YtokdeeplblaieaaDoor.Len
