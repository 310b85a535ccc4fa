/- Join, of the program and of the reference. -/
import Derived.Test.YtohoobgbmhondaaDigNum
import Derived.OwnWalk
namespace Go.Proofs.Ytohoobgbmhondaa.By
open Go Go.RowKit

/-- the numbers that lie from this address on -/
def NumAt (w : World) (n0 : Nat) (A : Option Addr) (l : List Int) : Prop := l = [] ∨ ∃ g off, A = some ⟨g, off, none⟩ ∧ g < n0 ∧ ∀ j (h : j < l.length), w.cell? ⟨g, off + j, none⟩ = some (.int .u64 l[j])
theorem NumAt.keep {w w' : World} {n0 : Nat} {A : Option Addr} {l : List Int} (h : NumAt w n0 A l) (hc : ∀ b o x, b < n0 → w.cell? ⟨b, o, none⟩ = some x → w'.cell? ⟨b, o, none⟩ = some x) : NumAt w' n0 A l := by
  rcases h with h | ⟨g, off, h1, h2, h3⟩
  · exact .inl h
  · exact .inr ⟨g, off, h1, h2, fun j hj => hc _ _ _ h2 (h3 j hj)⟩
theorem NumAt.below {w w' : World} {A : Option Addr} {l : List Int} (h : NumAt w w.heap.size A l) (hb : Below w.heap.size w w') : NumAt w' w'.heap.size A l := by
  rcases h with h | ⟨g, off, h1, h2, h3⟩
  · exact .inl h
  · exact .inr ⟨g, off, h1, Nat.lt_of_lt_of_le h2 hb.size, fun j hj => keep_cell hb (h3 j hj)⟩
theorem NumAt.pos {w : World} {n0 : Nat} {A : Option Addr} {l : List Int} (h : NumAt w n0 A l) (hl : 0 < l.length) : ∃ g off, A = some ⟨g, off, none⟩ ∧ g < n0 ∧ ∀ j (h : j < l.length), w.cell? ⟨g, off + j, none⟩ = some (.int .u64 l[j]) := by
  rcases h with rfl | h
  · simp at hl
  · exact h
theorem wrap_bd (k : Int) : U64 (IntKind.u64.wrap k) := by rw [IntKind.wrap_u64]; unfold U64; omega
theorem len_bd {n : Nat} (h : n ≤ 9223372036854775807) : U64 (n : Int) := by unfold U64; omega
theorem kids_take {l : List Int} {j : Nat} (h : j < l.length) : (l.take (j + 1)).flatMap eightL = (l.take j).flatMap eightL ++ eightL l[j] := by
  rw [List.take_succ_eq_append_getElem h, List.flatMap_append]; simp
theorem kids_take_len (l : List Int) (j : Nat) : ((l.take j).flatMap eightL).length ≤ 8 * l.length := by
  rw [kids_len, List.length_take]; omega
set_option maxRecDepth 100000 in
set_option maxHeartbeats 4000000 in
/-- digest.Join -/
theorem join_any {w : World} {k c : Int} {sb : ByteArray} {s : List UInt8} {A : Option Addr} {n cp : Nat} {l : List Int} (hs : sb.data.toList = s) (hn : n = l.length) (hA : NumAt w w.heap.size A l) (hU : ∀ x ∈ l, U64 x) (hbd : 32 + s.length + 8 * l.length ≤ 140737488355328) :
    Calls Try.prog 21 #[.int .i64 k, .string sb, .int .i64 c, .slice A n cp] w fun e w' => e = .returned (.int .u64 (updI startI (joinL k c s l))) ∧ Below w.heap.size w w' := by
  subst hn
  obtain ⟨i0, hi, hz0, hz1, hz2⟩ := info_parts info_u8
  have hsz : sb.size = s.length := by subst hs; simp
  obtain ⟨m, hm⟩ : ∃ m, sb.size = m := ⟨_, rfl⟩
  have HM := Lib.hid hm
  have HS := Lib.hid hs
  have HSL : Hid (s.length = m) := Lib.hid (by omega)
  obtain ⟨q, hq⟩ : ∃ q, l.length = q := ⟨_, rfl⟩
  have HQ := Lib.hid hq
  have hb2 : 32 + m + 8 * q ≤ 140737488355328 := by omega
  have HAA := Lib.hid hA
  have HUU := Lib.hid hU
  have U1 := Lib.hid (wrap_bd k)
  have U2 := Lib.hid (wrap_bd c)
  have U3 : Hid (U64 (m : Int)) := Lib.hid (len_bd (by omega))
  have U4 : Hid (U64 (q : Int)) := Lib.hid (len_bd (by omega))
  have HJ : Hid (joinL k c s l = [] ++ eightL (IntKind.u64.wrap k) ++ eightL m ++ s ++ eightL (IntKind.u64.wrap c) ++ eightL q ++ l.flatMap eightL) := Lib.hid (by unfold joinL; rw [HSL.out, hq]; rfl)
  obtain ⟨V, hV⟩ : ∃ V, updI startI (joinL k c s l) = V := ⟨_, rfl⟩
  have HV := Lib.hid hV
  rw [hq, hV]
  clear hs hsz hbd hA hU hq hV
  go_enter Try.func21, Try.ntmps21
  go_wp2_with (first
    | (at_make
       refine wpList_make_own _ rfl _ _ 24 rfl w.heap.size 5 i0 (.int .u8 0) 1 Try.underlying24 hi hz0 hz1 .i64 .i64 _ (8 * (4 + q) + m) rfl rfl (by omega) (by rw [hz2]; omega) (by unfold maxLen; omega) (Nat.le_refl _) ?_
       intro w0 hown0 hgrow0
       have HB : Hid (Byt w0 w.heap.size (.slice (some ⟨w.heap.size, 0, none⟩) 0 (8 * (4 + q) + m)) []) := Lib.hid hown0
       have HG : Hid (Below w.heap.size w w0) := Lib.hid ((Below.refl _ _).grown hgrow0 (Nat.le_refl _) (fun k hk => by cases hk))
       clear hown0 hgrow0)
    | (go_at_call 32
       first
         | (with_reducible refine (num_any w.heap.size _ _ _ _ U1.out HB.out HG.out.size (by simp only [List.length_append, eightL_len, List.length_nil, HSL.out]; omega)).mono ?_)
         | (with_reducible refine (num_any w.heap.size _ _ _ _ U3.out HB.out HG.out.size (by simp only [List.length_append, eightL_len, List.length_nil, HSL.out]; omega)).mono ?_)
         | (with_reducible refine (num_any w.heap.size _ _ _ _ U2.out HB.out HG.out.size (by simp only [List.length_append, eightL_len, List.length_nil, HSL.out]; omega)).mono ?_)
         | (with_reducible refine (num_any w.heap.size _ _ _ _ U4.out HB.out HG.out.size (by simp only [List.length_append, eightL_len, List.length_nil, HSL.out]; omega)).mono ?_)
         | fail
       rintro e w1 ⟨v1, rfl, hB1, hG1⟩
       have HG2 := Lib.hid (hG1.belowB HG.out HG.out.size HB.out.low)
       clear HG
       have HG := HG2
       clear HG2 HB
       have HB := Lib.hid hB1
       clear hB1 hG1)
    | (at_builtin
       refine wpList_append_str_by (by rfl) (.tmp 29) (.tmp 30) rfl w.heap.size v1 _ (by simp only [List.length_append, eightL_len]; omega) rfl HB.out sb s HS.out rfl (by simp only [List.length_append, eightL_len, List.length_nil, HSL.out]; omega) HG.out.size ?_
       intro v3 w3 hB3 hgrow hat
       have HG2 := Lib.hid (HG.out.grown hgrow HG.out.size HB.out.low)
       clear HG
       have HG := HG2
       clear HG2 HB
       have HB := Lib.hid hB3
       clear hB3 hgrow hat)
    | fail)
  obtain ⟨L, hL⟩ : ∃ L, [] ++ eightL (IntKind.u64.wrap k) ++ eightL m ++ s ++ eightL (IntKind.u64.wrap c) ++ eightL q = L := ⟨_, rfl⟩
  have HLL : Hid (L.length = 32 + m) := Lib.hid (by rw [← hL]; simp only [List.length_append, eightL_len, List.length_nil, HSL.out]; omega)
  rw [hL] at HB HJ
  have HB0 : Hid (Byt w1 w.heap.size v1 (L ++ (l.take 0).flatMap eightL)) := Lib.hid (by rw [List.take_zero, List.flatMap_nil, List.append_nil]; exact HB.out)
  clear hL HB U1 U2 U3 U4
  go_loopw [9, 43] (fun b i wr => ∃ (j : Nat) (vb : Value), j ≤ q ∧ i = .int .i64 (j : Int) ∧ vb = b ∧ Hid (Byt wr w.heap.size vb (L ++ (l.take j).flatMap eightL)) ∧ Hid (Below w.heap.size w wr))
    (fun _ i _ => q - (intOf i).toNat)
  case atStart => exact ⟨0, v1, Nat.zero_le _, rfl, rfl, HB0, HG⟩
  case round =>
    obtain ⟨j, vb, hj, rfl, rfl, HY, HGm⟩ := hrel
    by_cases hlt : j < q
    · have hjl : j < l.length := by rw [HQ.out]; exact hlt
      obtain ⟨g, off, rfl, hg, hc⟩ := (HAA.out.below HGm.out).pos (by omega)
      have hcj := hc j hjl
      have UJ : Hid (U64 l[j]) := Lib.hid (HUU.out _ (List.getElem_mem _))
      have HLT : Hid ((L ++ (l.take j).flatMap eightL).length + 8 ≤ 140737488355328) := Lib.hid (by
        rw [List.length_append, HLL.out, kids_len, List.length_take]; omega)
      have HK : Hid (L ++ (l.take j).flatMap eightL ++ eightL l[j] = L ++ (l.take (j + 1)).flatMap eightL) := Lib.hid (by rw [kids_take hjl, List.append_assoc])
      clear hc hg
      go_wp2_with (first
        | (go_at_call 32
           refine (num_any w.heap.size _ _ _ _ UJ.out HY.out HGm.out.size HLT.out).mono ?_
           rintro e w5 ⟨v5, rfl, hB5, hG5⟩
           rw [HK.out] at hB5
           have HB5 := Lib.hid hB5
           have HG5 := Lib.hid (hG5.belowB HGm.out HGm.out.size HY.out.low)
           clear hB5 hG5)
        | fail)
      go_roundw
      case rel => exact ⟨j + 1, v5, by omega, by go_num, rfl, HB5, HG5⟩
      case measure => simp [intOf]; omega
    · have HF : Hid (Byt wr w.heap.size vb (joinL k c s l)) := Lib.hid (by rw [HJ.out]; have := HY.out; rwa [List.take_of_length_le (by rw [HQ.out]; omega)] at this)
      have HLE : Hid ((joinL k c s l).length ≤ 9223372036854775807) := Lib.hid (by rw [joinL_len, HSL.out, HQ.out]; omega)
      obtain ⟨A9, c9, rfl⟩ := HF.out.form
      obtain ⟨Z, hZ⟩ : ∃ Z, (joinL k c s l).length = Z := ⟨_, rfl⟩
      have HZ := Lib.hid hZ
      rw [hZ] at HF ⊢
      clear hZ
      go_wp2_with (first
        | (go_at_call 17
           refine (bytes_let HZ.out.symm HF.out.at_.2 HLE.out HV.out).mono ?_
           rintro e w6 ⟨rfl, rfl⟩)
        | fail)
      go_ret
      exact ⟨rfl, HGm.out⟩
end Go.Proofs.Ytohoobgbmhondaa.By
