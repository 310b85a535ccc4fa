/- Join of the reference. -/
import Derived.Test.YtohoobgbmhondaaDigJoin
namespace Go.Proofs.Ytohoobgbmhondaa.By
open Go Go.RowKit

theorem rbytes_let {w : World} {A : Option Addr} {n c : Nat} {l : List UInt8} {V : Int} (hn : n = l.length) (hB : BytAt w w.heap.size A l) (hl : l.length ≤ 9223372036854775807) (hV : updI startI l = V) :
    Calls Try.prog 18 #[.slice A n c] w fun e w' => e = .returned (.int .u64 V) ∧ w' = w := by
  subst hV
  exact rbytes_any hn hB hl
theorem eight8 (n : Int) (w : World) (hn : U64 n) :
    Calls Try.prog 33 #[.int .u64 n] w fun e w' => ∃ a c, e = .returned (.slice (some a) 8 c) ∧ Byt w' w.heap.size (.slice (some a) 8 c) (eightL n) ∧ Below w.heap.size w w' :=
  (eight_any n w hn).mono fun e w' ⟨A, c, he, hB, hb⟩ => by
    obtain ⟨a, rfl⟩ := hB.some_of (by rw [eightL_len]; omega)
    rw [eightL_len] at he hB
    exact ⟨a, c, he, hB, hb⟩
set_option maxRecDepth 100000 in
set_option maxHeartbeats 4000000 in
/-- Join of the reference -/
theorem rjoin_any {w : World} {k c : Int} {sb : ByteArray} {s : List UInt8} {A : Option Addr} {n cp : Nat} {l : List Int} (hs : sb.data.toList = s) (hn : n = l.length) (hA : NumAt w w.heap.size A l) (hU : ∀ x ∈ l, U64 x) (hbd : 32 + s.length + 8 * l.length ≤ 140737488355328) :
    Calls Try.prog 22 #[.int .i64 k, .string sb, .int .i64 c, .slice A n cp] w fun e w' => e = .returned (.int .u64 (updI startI (joinL k c s l))) ∧ Below w.heap.size w w' := by
  subst hn
  obtain ⟨i0, hi, hz0, hz1, hz2⟩ := info_parts info_u8
  have hsz : sb.size = s.length := by subst hs; simp
  obtain ⟨m, hm⟩ : ∃ m, sb.size = m := ⟨_, rfl⟩
  have HM := Lib.hid hm
  have HS := Lib.hid hs
  have HSL : Hid (s.length = m) := Lib.hid (by omega)
  obtain ⟨q, hq⟩ : ∃ q, l.length = q := ⟨_, rfl⟩
  have HQ := Lib.hid hq
  have hb2 : 32 + m + 8 * q ≤ 140737488355328 := by omega
  have HAA := Lib.hid hA
  have HUU := Lib.hid hU
  have U1 := Lib.hid (wrap_bd k)
  have U2 := Lib.hid (wrap_bd c)
  have U3 : Hid (U64 (m : Int)) := Lib.hid (len_bd (by omega))
  have U4 : Hid (U64 (q : Int)) := Lib.hid (len_bd (by omega))
  have HJ : Hid (joinL k c s l = [] ++ eightL (IntKind.u64.wrap k) ++ eightL m ++ s ++ eightL (IntKind.u64.wrap c) ++ eightL q ++ l.flatMap eightL) := Lib.hid (by unfold joinL; rw [HSL.out, hq]; rfl)
  obtain ⟨V, hV⟩ : ∃ V, updI startI (joinL k c s l) = V := ⟨_, rfl⟩
  have HV := Lib.hid hV
  rw [hq, hV]
  clear hs hsz hbd hA hU hq hV
  go_enter Try.func22, Try.ntmps22
  go_wp2_with (first
    | (go_at_call 33
       with_reducible refine (eight8 _ _ U1.out).mono ?_
       rintro e w1 ⟨a1, c1, rfl, hB1, hb1⟩
       have HB : Hid (Byt w1 w.heap.size (.slice (some a1) 8 c1) ([] ++ eightL (IntKind.u64.wrap k))) := Lib.hid hB1
       have HG := Lib.hid hb1
       clear hB1 hb1)
    | (go_at_call 33
       with_reducible refine (eight8 _ _ U3.out).mono ?_
       rintro e w2 ⟨a2, c2, rfl, hB2, hb2⟩
       have HX := Lib.hid hB2.at_.2
       have HB2 := Lib.hid (HB.out.below hb2)
       have HG2 := Lib.hid (below_self HG.out hb2)
       clear HB HG hB2
       have HB := HB2
       have HG := HG2
       clear HB2 HG2 hb2)
    | (at_builtin
       refine wpList_append_by (by rfl) (.tmp 13) (.tmp 17) rfl w.heap.size (.slice (some a1) 8 c1) _ rfl HB.out (some a2) 8 c2 _ _ rfl (by rw [eightL_len]) (fun h => by cases h) HX.out (by simp only [List.length_append, eightL_len, List.length_nil, HSL.out]; omega) HG.out.size ?_
       intro v1 w1 hB3 hgrow hat
       have HG2 := Lib.hid (HG.out.grown hgrow HG.out.size HB.out.low)
       clear HG HX
       have HG := HG2
       clear HG2 HB
       have HB := Lib.hid hB3
       clear hB3 hgrow hat)
    | (at_builtin
       refine wpList_append_str_by (by rfl) (.tmp 19) (.tmp 20) rfl w.heap.size v1 _ (by simp only [List.length_append, eightL_len]; omega) rfl HB.out sb s HS.out rfl (by simp only [List.length_append, eightL_len, List.length_nil, HSL.out]; omega) HG.out.size ?_
       intro v1 w1 hB3 hgrow hat
       have HG2 := Lib.hid (HG.out.grown hgrow HG.out.size HB.out.low)
       clear HG
       have HG := HG2
       clear HG2 HB
       have HB := Lib.hid hB3
       clear hB3 hgrow hat)
    | (go_at_call 33
       with_reducible refine (eight8 _ _ U2.out).mono ?_
       rintro e w2 ⟨a2, c2, rfl, hB2, hb2⟩
       have HX := Lib.hid hB2.at_.2
       have HB2 := Lib.hid (HB.out.below hb2)
       have HG2 := Lib.hid (below_self HG.out hb2)
       clear HB HG hB2
       have HB := HB2
       have HG := HG2
       clear HB2 HG2 hb2)
    | (at_builtin
       refine wpList_append_by (by rfl) (.tmp 22) (.tmp 25) rfl w.heap.size v1 _ rfl HB.out (some a2) 8 c2 _ _ rfl (by rw [eightL_len]) (fun h => by cases h) HX.out (by simp only [List.length_append, eightL_len, List.length_nil, HSL.out]; omega) HG.out.size ?_
       intro v1 w1 hB3 hgrow hat
       have HG2 := Lib.hid (HG.out.grown hgrow HG.out.size HB.out.low)
       clear HG HX
       have HG := HG2
       clear HG2 HB
       have HB := Lib.hid hB3
       clear hB3 hgrow hat)
    | (go_at_call 33
       with_reducible refine (eight8 _ _ U4.out).mono ?_
       rintro e w2 ⟨a2, c2, rfl, hB2, hb2⟩
       have HX := Lib.hid hB2.at_.2
       have HB2 := Lib.hid (HB.out.below hb2)
       have HG2 := Lib.hid (below_self HG.out hb2)
       clear HB HG hB2
       have HB := HB2
       have HG := HG2
       clear HB2 HG2 hb2)
    | (at_builtin
       refine wpList_append_by (by rfl) (.tmp 26) (.tmp 30) rfl w.heap.size v1 _ rfl HB.out (some a2) 8 c2 _ _ rfl (by rw [eightL_len]) (fun h => by cases h) HX.out (by simp only [List.length_append, eightL_len, List.length_nil, HSL.out]; omega) HG.out.size ?_
       intro v1 w1 hB3 hgrow hat
       have HG2 := Lib.hid (HG.out.grown hgrow HG.out.size HB.out.low)
       clear HG HX
       have HG := HG2
       clear HG2 HB
       have HB := Lib.hid hB3
       clear hB3 hgrow hat)
    | fail)
  obtain ⟨L, hL⟩ : ∃ L, [] ++ eightL (IntKind.u64.wrap k) ++ eightL m ++ s ++ eightL (IntKind.u64.wrap c) ++ eightL q = L := ⟨_, rfl⟩
  have HLL : Hid (L.length = 32 + m) := Lib.hid (by rw [← hL]; simp only [List.length_append, eightL_len, List.length_nil, HSL.out]; omega)
  rw [hL] at HB HJ
  have HB0 : Hid (Byt w1 w.heap.size v1 (L ++ (l.take 0).flatMap eightL)) := Lib.hid (by rw [List.take_zero, List.flatMap_nil, List.append_nil]; exact HB.out)
  clear hL HB U1 U2 U3 U4
  go_loopw [9, 10] (fun b i wr => ∃ (j : Nat) (vb : Value), j ≤ q ∧ i = .int .i64 (j : Int) ∧ vb = b ∧ Hid (Byt wr w.heap.size vb (L ++ (l.take j).flatMap eightL)) ∧ Hid (Below w.heap.size w wr))
    (fun _ i _ => q - (intOf i).toNat)
  case atStart => exact ⟨0, v1, Nat.zero_le _, rfl, rfl, HB0, HG⟩
  case round =>
    obtain ⟨j, vb, hj, rfl, rfl, HY, HGm⟩ := hrel
    by_cases hlt : j < q
    · have hjl : j < l.length := by rw [HQ.out]; exact hlt
      obtain ⟨g, off, rfl, hg, hc⟩ := (HAA.out.below HGm.out).pos (by omega)
      have hcj := hc j hjl
      have UJ : Hid (U64 l[j]) := Lib.hid (HUU.out _ (List.getElem_mem _))
      have HLT : Hid ((L ++ (l.take j).flatMap eightL).length + 8 ≤ 140737488355328) := Lib.hid (by
        rw [List.length_append, HLL.out, kids_len, List.length_take]; omega)
      have HK : Hid (L ++ (l.take j).flatMap eightL ++ eightL l[j] = L ++ (l.take (j + 1)).flatMap eightL) := Lib.hid (by rw [kids_take hjl, List.append_assoc])
      clear hc hg
      go_wp2_with (first
        | (go_at_call 33
           refine (eight8 _ _ UJ.out).mono ?_
           rintro e w2 ⟨a2, c2, rfl, hB2, hb2⟩
           have HX := Lib.hid hB2.at_.2
           have HYB := Lib.hid (HY.out.below hb2)
           have HG4 := Lib.hid (below_self HGm.out hb2)
           clear hB2 hb2)
        | (at_builtin
           refine wpList_append_by (by rfl) (.tmp 38) (.tmp 43) rfl w.heap.size vb _ rfl HYB.out (some a2) 8 c2 _ _ rfl (by rw [eightL_len]) (fun h => by cases h) HX.out (by have := HLT.out; rw [eightL_len]; exact this) HG4.out.size ?_
           intro v5 w5 hB5 hgrow hat
           rw [HK.out] at hB5
           have HB5 := Lib.hid hB5
           have HG5 := Lib.hid (HG4.out.grown hgrow HG4.out.size HYB.out.low)
           clear hB5 hgrow hat)
        | fail)
      go_wp2
      go_roundw
      case rel => exact ⟨j + 1, v5, by omega, by go_num, rfl, HB5, HG5⟩
      case measure => simp [intOf]; omega
    · have HF : Hid (Byt wr w.heap.size vb (joinL k c s l)) := Lib.hid (by rw [HJ.out]; have := HY.out; rwa [List.take_of_length_le (by rw [HQ.out]; omega)] at this)
      have HLE : Hid ((joinL k c s l).length ≤ 9223372036854775807) := Lib.hid (by rw [joinL_len, HSL.out, HQ.out]; omega)
      obtain ⟨A9, c9, rfl⟩ := HF.out.form
      obtain ⟨Z, hZ⟩ : ∃ Z, (joinL k c s l).length = Z := ⟨_, rfl⟩
      have HZ := Lib.hid hZ
      rw [hZ] at HF ⊢
      clear hZ
      go_wp2_with (first
        | (go_at_call 18
           refine (rbytes_let HZ.out.symm HF.out.at_.2 HLE.out HV.out).mono ?_
           rintro e w6 ⟨rfl, rfl⟩)
        | fail)
      go_ret
      exact ⟨rfl, HGm.out⟩
end Go.Proofs.Ytohoobgbmhondaa.By
