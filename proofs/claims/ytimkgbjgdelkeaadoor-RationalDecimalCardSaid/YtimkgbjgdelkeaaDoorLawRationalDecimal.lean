/- RationalDecimal: for every two integers of 16 bits and every number of zeros the law returns true and turns nothing that lay in memory. Condition: the package-level tables hold what the program's text lays (tied by the card). -/
import Derived.Test.YtimkgbjgdelkeaaDoorCards
import Derived.SevenTiedAt
import Derived.OpenShut
import Derived.Test.YtimkgbjgdelkeaaDoorTie
import Derived.Test.YtimkgbjgdelkeaaDoorLaid
import Derived.Test.YtimkgbjgdelkeaaDoorRatOpen
import Derived.Test.YtimkgbjgdelkeaaDoorLaidErr2
import Derived.Test.YtimkgbjgdelkeaaDoorRatDecimal
import Derived.Test.YtimkgbjgdelkeaaDoorRatLawOps
namespace Go.Proofs.YtimkgbjgdelkeaaDoor.rationalDecimal
open Go Go.RowKit Go.WideShapes Go.ChangeShapes Len RatM

theorem catL {a b : ByteArray} {l m : List UInt8} (ha : a.data.toList = l) (hb : b.data.toList = m) : (a ++ b).data.toList = l ++ m := by rw [ByteArray.data_append, Array.toList_append, ha, hb]
theorem size_of {a : ByteArray} {l : List UInt8} (ha : a.data.toList = l) : a.size = l.length := by subst ha; simp
set_option maxRecDepth 100000 in
set_option maxHeartbeats 8000000 in
theorem walk_ok (wN fN zN : Nat) (w : World) (hT : PTabs w) (hE : (parseZ (Lib.decDigits wN ++ 46 :: fracL (zN % 3) fN)).2.2 = 0) (hw : wN ≤ 65535) (hf : fN ≤ 65535) (hz : zN ≤ 255) :
    Calls Tryd.prog 11 #[.int .u16 wN, .int .u16 fN, .int .u8 zN] w fun e w' => e = .returned (.bool true) ∧ Below w.heap.size w w' := by
  have hz3 : zN % 3 ≤ 2 := by omega
  obtain ⟨x, hx⟩ : ∃ x, parseZ (Lib.decDigits wN ++ 46 :: fracL (zN % 3) fN) = x := ⟨_, rfl⟩
  obtain ⟨a, ha⟩ : ∃ a, makeZ (fN : Int) ((10 ^ (fracL (zN % 3) fN).length : Nat) : Int) = a := ⟨_, rfl⟩
  have hsum := dec_all hw hz3 hf
  rw [ha, hx] at hsum
  have ES := Lib.hid hsum
  have EA := Lib.hid ha
  have EX := Lib.hid hx
  have ba := bd_of (bd_make _ _) ha
  have iax := ba.x
  have iay := ba.y
  have HLEN := Lib.hid (fracL_len hz3 hf)
  have hag : Hid (agreeB x x = true) := Lib.hid (agree_of fun _ _ => ⟨rfl, rfl⟩)
  have lw := dec_len_pow 5 wN (by omega) (by omega)
  have lf := dec_len_pow 5 fN (by omega) (by omega)
  have hwi : (wN : Int) ≤ 65535 := by omega
  have hfi : (fN : Int) ≤ 65535 := by omega
  have hzi : (zN : Int) ≤ 255 := by omega
  have HTW : Hid (∀ W : World, Tabs W → Calls Tryd.prog 17 #[.agg #[.int .i64 wN, .int .i64 1]] W fun e w' => e = .returned (.string ⟨(Lib.decDigits wN).toArray⟩) ∧ Below W.heap.size W w') := Lib.hid fun W hW => textnat_any wN W hw hW
  have HTF : Hid (∀ W : World, Tabs W → Calls Tryd.prog 17 #[.agg #[.int .i64 fN, .int .i64 1]] W fun e w' => e = .returned (.string ⟨(Lib.decDigits fN).toArray⟩) ∧ Below W.heap.size W w') := Lib.hid fun W hW => textnat_any fN W hf hW
  have hx0 : (x.2.2 != 0) = false := by rw [← hx]; simp [hE]
  have hx1 : (x.2.2 == 0) = true := by rw [← hx]; simp [hE]
  clear hx ha hsum hE
  go_enter Tryd.func11, Tryd.ntmps11
  go_wp2_with fail
  refine (awake_any _ hT.tabs).mono ?_
  rintro e w1 ⟨rfl, hb⟩
  have hT1 := hT.below hb
  have hB := hb
  clear hb
  go_wp2_with fail
  refine (HTF.out _ hT1.tabs).mono ?_
  rintro e w2 ⟨rfl, hb⟩
  have hT2 := hT1.below hb
  replace hB := hB.trans (hb.mono hB.size)
  clear hb hT1
  go_wp2_with fail
  go_loop [7, 9] (fun s i => ∃ (k : Nat) (b : ByteArray), i = .int .i64 k ∧ s = .string b ∧ k ≤ zN % 3 ∧ b.size ≤ 7 ∧ Hid (b.data.toList = fracL k fN)) (fun _ i => 3 - (intOf i).toNat)
  case atStart => exact ⟨0, _, rfl, rfl, by omega, by show (Lib.decDigits fN).length ≤ 7; omega, Lib.hid (fracL_zero fN).symm⟩
  case round =>
    obtain ⟨k, b, rfl, rfl, hk, hbs, HB⟩ := hrel
    by_cases hlt : k < zN % 3
    · have hb6 : b.size ≤ 6 := by
        have h1 := dec_len_pow 5 fN (by omega) (by omega)
        have h2 := size_of HB.out
        unfold fracL at h2
        rw [List.length_append, List.length_replicate] at h2
        omega
      have hlti : (k : Int) < (zN : Int) % 3 := by omega
      have nxt : Hid (((⟨#[48]⟩ : ByteArray) ++ b).data.toList = fracL (k + 1) fN) := Lib.hid (by rw [fracL_succ, catL (l := [48]) rfl HB.out]; rfl)
      go_wp2_with fail
      go_round
      case rel => exact ⟨k + 1, _, by go_num, rfl, by omega, by rw [ByteArray.size_append]; show 1 + b.size ≤ 7; omega, nxt⟩
      case measure => simp [intOf]; omega
    · have hkz : k = zN % 3 := by omega
      have HBZ : Hid (b.data.toList = fracL (zN % 3) fN) := Lib.hid (hkz ▸ HB.out)
      have HSZ : Hid (b.size = (fracL (zN % 3) fN).length) := Lib.hid (size_of HBZ.out)
      have hgei : ¬ (k : Int) < (zN : Int) % 3 := by omega
      go_wp2_with fail
      go_loop [8, 10] (fun t i => ∃ k : Nat, i = .int .i64 k ∧ k ≤ b.size ∧ t = .int .i64 ((10 ^ k : Nat) : Int)) (fun _ i => b.size - (intOf i).toNat)
      case atStart => exact ⟨0, rfl, by omega, rfl⟩
      case round =>
        obtain ⟨j, rfl, hj, rfl⟩ := hrel
        have hp : 10 ^ j ≤ 10 ^ 7 := Nat.pow_le_pow_right (by omega) (by omega)
        have hp2 : ((10 ^ j : Nat) : Int) ≤ 10000000 := by omega
        have hp0 : (0 : Int) ≤ ((10 ^ j : Nat) : Int) := Int.natCast_nonneg _
        by_cases hjl : j < b.size
        · have HQ : Hid (((10 ^ j : Nat) : Int) * 10 = ((10 ^ (j + 1) : Nat) : Int)) := Lib.hid (by rw [Nat.pow_succ]; push_cast; rfl)
          generalize ((10 ^ j : Nat) : Int) = q at *
          clear hp
          go_wp2_with fail
          go_round
          case rel => exact ⟨j + 1, by go_num, by omega, by rw [HQ.out]⟩
          case measure => simp [intOf]; omega
        · have hjb : j = b.size := by omega
          have EQ : Hid (makeZ (fN : Int) ((10 ^ j : Nat) : Int) = a) := Lib.hid (by rw [hjb, HSZ.out]; exact EA.out)
          generalize ((10 ^ j : Nat) : Int) = q at *
          clear hp
          have HPA : Hid (∀ W' : World, PTabs W' → Calls Tryd.prog 20 #[.string ((⟨(Lib.decDigits wN).toArray⟩ : ByteArray) ++ ⟨#[46]⟩ ++ b)] W' (Ret x W')) := Lib.hid fun W' hW' => by
            have hl : ((⟨(Lib.decDigits wN).toArray⟩ : ByteArray) ++ ⟨#[46]⟩ ++ b).data.toList = Lib.decDigits wN ++ 46 :: fracL (zN % 3) fN := by rw [catL (catL (l := Lib.decDigits wN) (m := [46]) rfl rfl) HBZ.out]; simp
            have hc := parse_any ((⟨(Lib.decDigits wN).toArray⟩ : ByteArray) ++ ⟨#[46]⟩ ++ b) W' hW' (by rw [size_of hl, List.length_append, List.length_cons]; have := HLEN.out; omega)
            rw [hl, EX.out] at hc
            exact hc
          have hK : Kept w w2 := ⟨hT2.tabs, hB⟩
          go_wp2_with fail
          refine (HTW.out _ hT2.tabs).mono ?_
          rintro e w3 ⟨rfl, hb⟩
          have hT3 := hT2.below hb
          replace hK := hK.go hb
          clear hb hT2 hB
          go_wp2_with fail
          refine (HPA.out _ hT3).mono ?_
          rintro e w4 ⟨rfl, hb⟩
          replace hK := hK.go hb
          clear hb
          go_wp2_with fail
          refine (makec_ret EQ _ (by omega) (by omega) (by omega) (by omega)).mono ?_
          rintro e w5 ⟨rfl, hb⟩
          replace hK := hK.goA hb
          have t11 := Two.freshA hb
          clear hb
          have t11a := t11.c0
          have t11b := t11.c1
          have t11l := t11.lt
          go_wp2_with fail
          refine (ret_at (op0_any a ((wN : Int), 1, 0) _ iax iay ⟨by show (-9223372036854775808 : Int) ≤ (wN : Int); omega, by show (wN : Int) ≤ 9223372036854775807; omega⟩ ⟨by show (-9223372036854775808 : Int) ≤ 1; omega, by show (1 : Int) ≤ 9223372036854775807; omega⟩) ES).mono ?_
          rintro e w6 ⟨rfl, hb⟩
          clear t11a t11b t11l
          replace hK := hK.goA hb
          replace t11 := t11.goA hb
          have t13 := Two.freshA hb
          clear hb
          have t11a := t11.c0
          have t11b := t11.c1
          have t11l := t11.lt
          have t13a := t13.c0
          have t13b := t13.c1
          have t13l := t13.lt
          go_wp2_with fail
          refine (agree_any x x _ hag.out).mono ?_
          rintro e w7 ⟨rfl, hb⟩
          clear t11a t11b t11l t13a t13b t13l
          replace hK := hK.goA hb
          replace t11 := t11.goA hb
          replace t13 := t13.goA hb
          have t15 := Two.freshA hb
          clear hb
          have t11a := t11.c0
          have t11b := t11.c1
          have t11l := t11.lt
          have t13a := t13.c0
          have t13b := t13.c1
          have t13l := t13.lt
          have t15a := t15.c0
          have t15b := t15.c1
          have t15l := t15.lt
          go_wp2_with fail
          go_ret
          exact ⟨rfl, hK.below⟩
set_option maxRecDepth 100000 in
set_option maxHeartbeats 8000000 in
theorem walk_err (wN fN zN : Nat) (w : World) (hT : PTabs w) (hE : (parseZ (Lib.decDigits wN ++ 46 :: fracL (zN % 3) fN)).2.2 ≠ 0) (hw : wN ≤ 65535) (hf : fN ≤ 65535) (hz : zN ≤ 255) :
    Calls Tryd.prog 11 #[.int .u16 wN, .int .u16 fN, .int .u8 zN] w fun e w' => e = .returned (.bool true) ∧ Below w.heap.size w w' := by
  have hz3 : zN % 3 ≤ 2 := by omega
  obtain ⟨x, hx⟩ : ∃ x, parseZ (Lib.decDigits wN ++ 46 :: fracL (zN % 3) fN) = x := ⟨_, rfl⟩
  obtain ⟨a, ha⟩ : ∃ a, makeZ (fN : Int) ((10 ^ (fracL (zN % 3) fN).length : Nat) : Int) = a := ⟨_, rfl⟩
  have hsum := dec_all hw hz3 hf
  rw [ha, hx] at hsum
  have ES := Lib.hid hsum
  have EA := Lib.hid ha
  have EX := Lib.hid hx
  have ba := bd_of (bd_make _ _) ha
  have iax := ba.x
  have iay := ba.y
  have HLEN := Lib.hid (fracL_len hz3 hf)
  have hag : Hid (agreeB x x = true) := Lib.hid (agree_of fun _ _ => ⟨rfl, rfl⟩)
  have lw := dec_len_pow 5 wN (by omega) (by omega)
  have lf := dec_len_pow 5 fN (by omega) (by omega)
  have hwi : (wN : Int) ≤ 65535 := by omega
  have hfi : (fN : Int) ≤ 65535 := by omega
  have hzi : (zN : Int) ≤ 255 := by omega
  have HTW : Hid (∀ W : World, Tabs W → Calls Tryd.prog 17 #[.agg #[.int .i64 wN, .int .i64 1]] W fun e w' => e = .returned (.string ⟨(Lib.decDigits wN).toArray⟩) ∧ Below W.heap.size W w') := Lib.hid fun W hW => textnat_any wN W hw hW
  have HTF : Hid (∀ W : World, Tabs W → Calls Tryd.prog 17 #[.agg #[.int .i64 fN, .int .i64 1]] W fun e w' => e = .returned (.string ⟨(Lib.decDigits fN).toArray⟩) ∧ Below W.heap.size W w') := Lib.hid fun W hW => textnat_any fN W hf hW
  have hx0 : (x.2.2 != 0) = true := by rw [← hx]; simpa using hE
  clear hx ha hsum hE
  go_enter Tryd.func11, Tryd.ntmps11
  go_wp2_with fail
  refine (awake_any _ hT.tabs).mono ?_
  rintro e w1 ⟨rfl, hb⟩
  have hT1 := hT.below hb
  have hB := hb
  clear hb
  go_wp2_with fail
  refine (HTF.out _ hT1.tabs).mono ?_
  rintro e w2 ⟨rfl, hb⟩
  have hT2 := hT1.below hb
  replace hB := hB.trans (hb.mono hB.size)
  clear hb hT1
  go_wp2_with fail
  go_loop [7, 9] (fun s i => ∃ (k : Nat) (b : ByteArray), i = .int .i64 k ∧ s = .string b ∧ k ≤ zN % 3 ∧ b.size ≤ 7 ∧ Hid (b.data.toList = fracL k fN)) (fun _ i => 3 - (intOf i).toNat)
  case atStart => exact ⟨0, _, rfl, rfl, by omega, by show (Lib.decDigits fN).length ≤ 7; omega, Lib.hid (fracL_zero fN).symm⟩
  case round =>
    obtain ⟨k, b, rfl, rfl, hk, hbs, HB⟩ := hrel
    by_cases hlt : k < zN % 3
    · have hb6 : b.size ≤ 6 := by
        have h1 := dec_len_pow 5 fN (by omega) (by omega)
        have h2 := size_of HB.out
        unfold fracL at h2
        rw [List.length_append, List.length_replicate] at h2
        omega
      have hlti : (k : Int) < (zN : Int) % 3 := by omega
      have nxt : Hid (((⟨#[48]⟩ : ByteArray) ++ b).data.toList = fracL (k + 1) fN) := Lib.hid (by rw [fracL_succ, catL (l := [48]) rfl HB.out]; rfl)
      go_wp2_with fail
      go_round
      case rel => exact ⟨k + 1, _, by go_num, rfl, by omega, by rw [ByteArray.size_append]; show 1 + b.size ≤ 7; omega, nxt⟩
      case measure => simp [intOf]; omega
    · have hkz : k = zN % 3 := by omega
      have HBZ : Hid (b.data.toList = fracL (zN % 3) fN) := Lib.hid (hkz ▸ HB.out)
      have HSZ : Hid (b.size = (fracL (zN % 3) fN).length) := Lib.hid (size_of HBZ.out)
      have hgei : ¬ (k : Int) < (zN : Int) % 3 := by omega
      go_wp2_with fail
      go_loop [8, 10] (fun t i => ∃ k : Nat, i = .int .i64 k ∧ k ≤ b.size ∧ t = .int .i64 ((10 ^ k : Nat) : Int)) (fun _ i => b.size - (intOf i).toNat)
      case atStart => exact ⟨0, rfl, by omega, rfl⟩
      case round =>
        obtain ⟨j, rfl, hj, rfl⟩ := hrel
        have hp : 10 ^ j ≤ 10 ^ 7 := Nat.pow_le_pow_right (by omega) (by omega)
        have hp2 : ((10 ^ j : Nat) : Int) ≤ 10000000 := by omega
        have hp0 : (0 : Int) ≤ ((10 ^ j : Nat) : Int) := Int.natCast_nonneg _
        by_cases hjl : j < b.size
        · have HQ : Hid (((10 ^ j : Nat) : Int) * 10 = ((10 ^ (j + 1) : Nat) : Int)) := Lib.hid (by rw [Nat.pow_succ]; push_cast; rfl)
          generalize ((10 ^ j : Nat) : Int) = q at *
          clear hp
          go_wp2_with fail
          go_round
          case rel => exact ⟨j + 1, by go_num, by omega, by rw [HQ.out]⟩
          case measure => simp [intOf]; omega
        · have hjb : j = b.size := by omega
          have EQ : Hid (makeZ (fN : Int) ((10 ^ j : Nat) : Int) = a) := Lib.hid (by rw [hjb, HSZ.out]; exact EA.out)
          generalize ((10 ^ j : Nat) : Int) = q at *
          clear hp
          have HPA : Hid (∀ W' : World, PTabs W' → Calls Tryd.prog 20 #[.string ((⟨(Lib.decDigits wN).toArray⟩ : ByteArray) ++ ⟨#[46]⟩ ++ b)] W' (Ret x W')) := Lib.hid fun W' hW' => by
            have hl : ((⟨(Lib.decDigits wN).toArray⟩ : ByteArray) ++ ⟨#[46]⟩ ++ b).data.toList = Lib.decDigits wN ++ 46 :: fracL (zN % 3) fN := by rw [catL (catL (l := Lib.decDigits wN) (m := [46]) rfl rfl) HBZ.out]; simp
            have hc := parse_any ((⟨(Lib.decDigits wN).toArray⟩ : ByteArray) ++ ⟨#[46]⟩ ++ b) W' hW' (by rw [size_of hl, List.length_append, List.length_cons]; have := HLEN.out; omega)
            rw [hl, EX.out] at hc
            exact hc
          have hK : Kept w w2 := ⟨hT2.tabs, hB⟩
          go_wp2_with fail
          refine (HTW.out _ hT2.tabs).mono ?_
          rintro e w3 ⟨rfl, hb⟩
          have hT3 := hT2.below hb
          replace hK := hK.go hb
          clear hb hT2 hB
          go_wp2_with fail
          refine (HPA.out _ hT3).mono ?_
          rintro e w4 ⟨rfl, hb⟩
          replace hK := hK.go hb
          clear hb
          go_wp2_with fail
          refine (makec_ret EQ _ (by omega) (by omega) (by omega) (by omega)).mono ?_
          rintro e w5 ⟨rfl, hb⟩
          replace hK := hK.goA hb
          have t11 := Two.freshA hb
          clear hb
          have t11a := t11.c0
          have t11b := t11.c1
          have t11l := t11.lt
          go_wp2_with fail
          refine (ret_at (op0_any a ((wN : Int), 1, 0) _ iax iay ⟨by show (-9223372036854775808 : Int) ≤ (wN : Int); omega, by show (wN : Int) ≤ 9223372036854775807; omega⟩ ⟨by show (-9223372036854775808 : Int) ≤ 1; omega, by show (1 : Int) ≤ 9223372036854775807; omega⟩) ES).mono ?_
          rintro e w6 ⟨rfl, hb⟩
          clear t11a t11b t11l
          replace hK := hK.goA hb
          replace t11 := t11.goA hb
          have t13 := Two.freshA hb
          clear hb
          have t11a := t11.c0
          have t11b := t11.c1
          have t11l := t11.lt
          have t13a := t13.c0
          have t13b := t13.c1
          have t13l := t13.lt
          go_wp2_with fail
          refine (agree_any x x _ hag.out).mono ?_
          rintro e w7 ⟨rfl, hb⟩
          clear t11a t11b t11l t13a t13b t13l
          replace hK := hK.goA hb
          replace t11 := t11.goA hb
          replace t13 := t13.goA hb
          have t15 := Two.freshA hb
          clear hb
          have t11a := t11.c0
          have t11b := t11.c1
          have t11l := t11.lt
          have t13a := t13.c0
          have t13b := t13.c1
          have t13l := t13.lt
          have t15a := t15.c0
          have t15b := t15.c1
          have t15l := t15.lt
          go_wp2_with fail
          go_ret
          exact ⟨rfl, hK.below⟩
theorem walk (a0 a1 a2 : Int) (w : World) (hT : PTabs w) (h0 : 0 ≤ a0 ∧ a0 ≤ 65535) (h1 : 0 ≤ a1 ∧ a1 ≤ 65535) (h2 : 0 ≤ a2 ∧ a2 ≤ 255) :
    Calls Tryd.prog 11 #[.int .u16 a0, .int .u16 a1, .int .u8 a2] w fun e w' => e = .returned (.bool true) ∧ Below w.heap.size w w' := by
  obtain ⟨wN, rfl⟩ := Int.eq_ofNat_of_zero_le h0.1
  obtain ⟨fN, rfl⟩ := Int.eq_ofNat_of_zero_le h1.1
  obtain ⟨zN, rfl⟩ := Int.eq_ofNat_of_zero_le h2.1
  by_cases hE : (parseZ (Lib.decDigits wN ++ 46 :: fracL (zN % 3) fN)).2.2 = 0
  · exact walk_ok wN fN zN w hT hE (by omega) (by omega) (by omega)
  · exact walk_err wN fN zN w hT hE (by omega) (by omega) (by omega)

theorem readable : ∀ t ∈ Tryd.f11.params.toList, Tryd.prog.readableRec t = true ∧ t < Tryd.prog.types.size := Frame.readable_of (by kernel_rfl)

set_option maxRecDepth 100000 in
theorem contract (H : Type) (enc : TypeId × Value → H) (W : World) (base : Nat) (args : Array Value) (ds gs : List (DataW H)) (before : List MemPlace)
    (hval : ∀ (j : Nat) t v, Tryd.f11.params[j]? = some t → args[j]? = some v → Value.okWide Tryd.prog W .any base t v)
    (hW : DataW.Whole enc Tryd.prog Tryd.f11.params.toList Rows.rationalDecimalSpec.vars false W args.toList ds gs before) (hT : RatM.PTabs W) :
    Calls Tryd.prog 11 args W fun e W' => ∃ v, e = .returned v ∧ Rows.rationalDecimalSpec.post enc Tryd.prog Tryd.f11 false true false false W args v W' := by
  have hW' := hW
  obtain ⟨p, q, hA0, hV, rfl, hfz, hnd⟩ := hW
  have hA : DataW.TrodAll enc Tryd.prog W 0 (fun _ => true) true Tryd.f11.params.toList args.toList ds p := hA0
  rw [Tryd.params11] at hA hval
  obtain ⟨v0, vs0, d0, ds0, p0, q0, hargs, rfl, rfl, h0, r0⟩ := trodAll_cons hA
  obtain ⟨v1, vs1, d1, ds1, p1, q1, rfl, rfl, rfl, h1, r1⟩ := trodAll_cons r0
  obtain ⟨v2, vs2, d2, ds2, p2, q2, rfl, rfl, rfl, h2, r2⟩ := trodAll_cons r1
  obtain ⟨rfl, rfl, rfl⟩ := trodAll_nil r2
  obtain rfl : args = #[v0, v1, v2] := by cases args; simp_all
  obtain ⟨a0, rfl, rfl, rfl, w0⟩ := open_int Tryd.underlying63 (hval 0 63 v0 rfl rfl) h0
  obtain ⟨a1, rfl, rfl, rfl, w1⟩ := open_int Tryd.underlying63 (hval 1 63 v1 rfl rfl) h1
  obtain ⟨a2, rfl, rfl, rfl, w2⟩ := open_int Tryd.underlying5 (hval 2 5 v2 rfl rfl) h2
  refine (walk a0 a1 a2 W hT (bounds_u16 w0) (bounds_u16 w1) (bounds_u8 w2)).mono fun e W' ⟨he, hb⟩ => ⟨_, he, Frame.post_law Frame.laidOut readable (by kernel_rfl) Tryd.underlying4 hW' rfl rfl hb⟩

theorem laid_met (os : Os) : laidMetH Tryd.prog Rows.rationalDecimalRow.laid ((World.laidAll Tryd.prog os Rows.rationalDecimalRow.laid).forCall (fun _ _ => 0) ⟨#[], #[.int .u16 0, .int .u16 0, .int .u8 0], []⟩).memory := by
  rw [MakeChecks.laidMetH_plain _ _ _ (by kernel_rfl)]; exact laidMet_laidAll _ (by kernel_rfl) (by kernel_rfl)
theorem reads (os : Os) {H : Type} (enc : TypeId × Value → H) : ∃ places, DataW.whole enc Tryd.prog ((World.laidAll Tryd.prog os Rows.rationalDecimalRow.laid).forCall (fun _ _ => 0) ⟨#[], #[.int .u16 0, .int .u16 0, .int .u8 0], []⟩).memory Tryd.f11.params.toList Rows.rationalDecimalSpec.vars false (#[.int .u16 0, .int .u16 0, .int .u8 0] : Array Value).toList 8 = some ([.lit (.int .u16 0), .lit (.int .u16 0), .lit (.int .u8 0)], [], places) :=
  ⟨[], by kernel_rfl⟩
set_option maxRecDepth 100000 in
theorem lifted (os : Os) (started : os.Started) (H : Type) (enc : TypeId × Value → H) (F : Stop.Interp) :
    ReturnsInHanded {} Tryd.checked os 11 .any ((OpenSpec.ofChange Rows.rationalDecimalSpec).preRow enc Tryd.prog Tryd.f11 Rows.rationalDecimalRow.domain false Rows.rationalDecimalRow.laid) (((OpenSpec.ofChange Rows.rationalDecimalSpec).at F).post enc Tryd.prog Tryd.f11 false true false false) := by
  obtain ⟨places, hx⟩ := reads os enc
  refine returnsInHanded_of_row (C := Tryd.checked) (s := OpenSpec.ofChange Rows.rationalDecimalSpec) Frame.own started (by kernel_rfl) Tryd.func11
    (Frame.witness_row_shaped (enc := enc) (C := Tryd.checked) false (World.laidAll Tryd.prog os Rows.rationalDecimalRow.laid) #[.int .u16 0, .int .u16 0, .int .u8 0] (World.laidAll_os _ _ _) (World.shaped_of_ZipB (by kernel_rfl) (by kernel_rfl)) (by kernel_rfl)
      (OpenSpec.preRow_of_cond 8 hx (by kernel_rfl) (fun k hk => by cases hk) (by kernel_rfl) (laid_met os))) ?_
  intro W base args ds gs before hval hW _ _ hsz hL hsh _
  rw [MakeChecks.laidMetH_plain _ _ _ (by kernel_rfl)] at hL
  exact contract H enc W base args ds gs before hval hW (Laid.ptabs_of hL hsh)

theorem said : Rows.RationalDecimalSaid :=
  OpenClaim.holds_of_cond 11 Tryd.f11 rfl rfl rfl rfl rfl rfl rfl ⟨rfl, rfl, rfl, rfl, rfl⟩ rfl rfl rfl rfl rfl (by kernel_rfl) Tryd.func11 (by kernel_rfl)
    (of_decide_eq_true (by kernel_rfl)) (by unfold Func.isWrapper; first | (rw [if_pos (by decide +kernel)]; kernel_rfl) | (rw [if_neg (by decide +kernel)]; exact ⟨rfl, rfl⟩))
    (fun os started H enc _ F => by rw [OpenClaim.pre_eq_preRow]; exact lifted os started H enc F)

/-- No parameter wants a stand-in; the program's own looks are off. -/
theorem plain (f : FuncId) (fn : Func) (hf : Tryd.pinned.checked.prog.funcNamed "vinculum/vinculumlaw02.RationalDecimal" = some f) (hfn : Tryd.pinned.checked.prog.funcs[f]? = some fn) :
    true = Tryd.pinned.checked.prog.looks [] ∧ ∀ (j : Nat) t, fn.params[j]? = some t → Tryd.pinned.checked.prog.wantsStandIn t = false := by
  obtain rfl : f = 11 := Option.some.inj ((show Tryd.prog.funcNamed "vinculum/vinculumlaw02.RationalDecimal" = some 11 by kernel_rfl).symm.trans hf) |>.symm
  obtain rfl : fn = Tryd.f11 := (Option.some.inj (Tryd.func11.symm.trans hfn)).symm
  refine ⟨by kernel_rfl, fun j t ht => ?_⟩
  have hall : (Tryd.f11.params.toList.all fun u => !Tryd.prog.wantsStandIn u) = true := by kernel_rfl
  have hm : t ∈ Tryd.f11.params.toList := by simpa using Array.mem_of_getElem? ht
  exact (show Tryd.prog.wantsStandIn t = false by simpa using List.all_eq_true.1 hall t hm)

/-- ████ THE CARD ████ -/
theorem card : Rows.RationalDecimalCardSaid :=
  Claim7.holds_tied_plain_at .later [] _ _ _ _ said (fun _ h => by cases h) (by kernel_rfl) (fun _ h => by cases h) rationalDecimal_row_tie rfl ⟨rfl, rfl⟩ (by kernel_rfl) rfl plain (by kernel_rfl)
end Go.Proofs.YtimkgbjgdelkeaaDoor.rationalDecimal
