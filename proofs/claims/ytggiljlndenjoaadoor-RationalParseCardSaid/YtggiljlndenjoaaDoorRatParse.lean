/- Contracts of isDigits, fraction and Parse of package rational. -/
import Derived.Test.YtggiljlndenjoaaDoorParseSpec
import Derived.Test.YtggiljlndenjoaaDoorRatBlk
import Derived.Test.YtggiljlndenjoaaDoorShelfParse
import Derived.Shelf.Strings.SlTrimAscii
import Derived.Deep.RegionWith
namespace Go.Proofs.YtggiljlndenjoaaDoor.RatM
open Go Go.RowKit Len

/-- What Parse reads of memory: strconv's table, a variable of package bytealg, an error of package strconv. -/
structure PTabs (w : World) : Prop where
  tabs : Tabs w
  max : ∃ m : Int, w.cell? ⟨0, 0, none⟩ = some (.int .i64 m)
  err : ∃ tp p, w.var? Tryd.prog "strconv.ErrRange" = some #[.iface tp p]
theorem gErr : Tryd.prog.globalNamed "strconv.ErrRange" = some 2 := by kernel_rfl
theorem PTabs.below {w w' : World} (h : PTabs w) (hb : Below w.heap.size w w') : PTabs w' := by
  obtain ⟨m, hm⟩ := h.max
  obtain ⟨tp, p, hp⟩ := h.err
  refine ⟨h.tabs.below hb, ⟨m, (hb.cell (World.block_lt_of_cell? _ _ hm)).trans hm⟩, ⟨tp, p, var?_below hb gErr ?_ hp⟩⟩
  have hp' := hp
  unfold World.var? at hp'
  simp only [gErr, Option.bind_some] at hp'
  rcases Nat.lt_or_ge 2 w.heap.size with hl | hl
  · exact hl
  · rw [Array.getElem?_eq_none hl] at hp'; simp at hp'
theorem cutat (s : ByteArray) (w : World) (hT : PTabs w) (hs : s.size < 4294967281) :
    Calls Tryd.prog 26 #[.string s, .string ⟨#[46]⟩] w fun e w' => e = .returned (.tuple #[.string ⟨(Lib.cut s.data.toList [46]).1.toArray⟩, .string ⟨(Lib.cut s.data.toList [46]).2.1.toArray⟩, .bool (Lib.cut s.data.toList [46]).2.2]) ∧ Below w.heap.size w w' := by
  obtain ⟨m, hm⟩ := hT.max
  exact (Tryd.strings_Cut s ⟨#[46]⟩ m w hs hm).mono fun e w' ⟨he, n, hw⟩ => ⟨he, by rw [hw]; exact below_drewN (Below.refl _ _) n⟩
theorem atoi_ok (l : List UInt8) (w : World) (hs : l.length ≤ 9223372036854775806) (hd : l.all isD = true) (hne : l ≠ []) (hv : num l < 9223372036854775808) :
    Calls Tryd.prog 29 #[.string ⟨l.toArray⟩] w fun e w' => e = .returned (.tuple #[.int .i64 (num l : Int), .nilIface]) ∧ Below w.heap.size w w' := by
  refine (Tryd.strconv_Atoi_ok ⟨l.toArray⟩ hs (num l : Int) (by rw [show (⟨l.toArray⟩ : ByteArray).data.toList = l from rfl, RatM.atoi_digits hd hne, if_pos hv]) w).mono fun e w' ⟨he, hw⟩ => ⟨he, ?_⟩
  rcases hw with rfl | ⟨t, rfl⟩
  · exact Below.refl _ _
  · exact Joins.below_bytesWorld _ _ _ _ (Nat.le_refl _)
def Refused (w : World) (e : Ending) (w' : World) : Prop := ∃ v x y, e = .returned (.tuple #[.int .i64 v, .iface x y]) ∧ Below w.heap.size w w'
theorem atoi_range (l : List UInt8) (w : World) (hT : PTabs w) (hs : l.length ≤ 281474976710656) (hd : l.all isD = true) (hne : l ≠ []) (hv : ¬ num l < 9223372036854775808) :
    Calls Tryd.prog 29 #[.string ⟨l.toArray⟩] w (Refused w) := by
  obtain ⟨tp, p, hp⟩ := hT.err
  exact (Tryd.strconv_Atoi_range_var ⟨l.toArray⟩ hs (by rw [show (⟨l.toArray⟩ : ByteArray).data.toList = l from rfl, RatM.atoi_digits hd hne, if_neg hv]) tp p w hp).mono fun e w' ⟨N, he, _, _, hb⟩ => ⟨_, _, _, he, hb⟩

theorem trim_any (s : ByteArray) (w : World) (hs : s.size ≤ 9223372036854775807) :
    Calls Tryd.prog 42 #[.string s, .string ⟨#[48, 49, 50, 51, 52, 53, 54, 55, 56, 57]⟩] w fun e w' => e = .returned (.string ⟨(Lib.trimS s.data.toList [48, 49, 50, 51, 52, 53, 54, 55, 56, 57]).toArray⟩) ∧ Below w.heap.size w w' :=
  Any.strings_Trim_laid Tryd.lays160 (by kernel_rfl) s ⟨#[48, 49, 50, 51, 52, 53, 54, 55, 56, 57]⟩ w hs (by decide) (ascii_of_all (by decide))

/-- rational.isDigits -/
theorem isdigits_any (s : ByteArray) (w : World) (hs : s.size ≤ 9223372036854775807) :
    Calls Tryd.prog 27 #[.string s] w fun e w' => e = .returned (.bool (digB s.data.toList)) ∧ Below w.heap.size w w' := by
  cases he : s.toList.isEmpty with
  | true =>
    have fin : Hid (digB s.data.toList = false) := Lib.hid (by unfold digB; rw [← ByteArray.toList_eq, he]; simp)
    have h2 : s.toList = [] := by simpa using he
    clear he
    go_enter Tryd.func27, Tryd.ntmps27
    go_wp2_with fail
    go_ret
    exact ⟨ret_bool fin.out.symm, Below.refl _ _⟩
  | false =>
    obtain ⟨b, hb⟩ : ∃ b, s.data.toList.all isD = b := ⟨_, rfl⟩
    have fin : Hid (digB s.data.toList = b) := Lib.hid (by unfold digB; rw [← ByteArray.toList_eq, he, ByteArray.toList_eq, hb]; simp)
    obtain ⟨t, ht⟩ : ∃ t : ByteArray, (⟨(Lib.trimS s.data.toList [48, 49, 50, 51, 52, 53, 54, 55, 56, 57]).toArray⟩ : ByteArray) = t := ⟨_, rfl⟩
    have hc : Hid (∀ w : World, Calls Tryd.prog 42 #[.string s, .string ⟨#[48, 49, 50, 51, 52, 53, 54, 55, 56, 57]⟩] w fun e w' => e = .returned (.string t) ∧ Below w.heap.size w w') := Lib.hid fun w => ht ▸ trim_any s w hs
    have htb : t.toList.isEmpty = b := by
      have h := trim_digits s.data.toList
      rw [hb] at h
      rw [ByteArray.toList_eq, ← ht, ← h]
      show (Lib.trimS s.data.toList _).isEmpty = (Lib.trimS s.data.toList _ == [])
      cases Lib.trimS s.data.toList [48, 49, 50, 51, 52, 53, 54, 55, 56, 57] <;> rfl
    have h1 : s.toList ≠ [] := by simpa using he
    have HB := Lib.hid htb
    clear htb hb ht
    go_enter Tryd.func27, Tryd.ntmps27
    go_wp2_with fail
    refine (hc.out _).mono ?_
    rintro e w1 ⟨rfl, hb1⟩
    go_wp2_with fail
    go_ret
    exact ⟨ret_bool (HB.out.trans fin.out.symm), hb1⟩

/-- The memory at the head of a round of fraction. -/
structure FrS (w wr : World) (r : Res) : Prop where
  z : Blk wr w.heap.size #[.int .i64 0, .int .i64 0] 24
  y : Blk wr (w.heap.size + 1) #[.int .i64 r.1, .int .i64 r.2.1] 24
  below : Below w.heap.size w wr
theorem FrS.go {w wr w' : World} {r : Res} (h : FrS w wr r) (hb : Below wr.heap.size wr w') : FrS w w' r :=
  ⟨h.z.go hb, h.y.go hb, h.below.trans (hb.mono h.below.size)⟩
theorem FrS.set {w wr : World} {r s : Res} (h : FrS w wr r) : FrS w ((wr.setCell ⟨w.heap.size + 1, 0, none⟩ (.int .i64 s.1)).setCell ⟨w.heap.size + 1, 1, none⟩ (.int .i64 s.2.1)) s :=
  ⟨(h.z.other (by omega) _ _).other (by omega) _ _, (h.y.set 0 _).set 1 _, below_setAt h.below _ (by omega) _ _⟩
theorem FrS.drew {w wr : World} {r : Res} (h : FrS w wr r) : FrS w wr.drew r := h.go (below_drewN (Below.refl _ _) 1)
theorem drop_byte (s : ByteArray) (k : Nat) (h : k < s.size) : s.data.toList.drop k = s[k] :: s.data.toList.drop (k + 1) := by
  rw [List.drop_eq_getElem_cons (by simpa using h)]; rfl
theorem byte_dig (s : ByteArray) (k : Nat) (h : k < s.size) (hd : s.data.toList.all isD = true) : 48 ≤ s[k].toNat ∧ s[k].toNat ≤ 57 := by
  have : s[k] ∈ s.data.toList := by
    have e : s[k] = s.data.toList[k]'(by simpa using h) := rfl
    rw [e]; exact List.getElem_mem _
  exact digit_le (List.all_eq_true.1 hd _ this)
theorem frac_errs (l : List UInt8) : (fracZ l).2.2 = 0 ∨ fracZ l = (0, 0, 2) := repr_errs _
theorem drop_all {l : List UInt8} (h : l.all isD = true) (k : Nat) : (l.drop k).all isD = true :=
  List.all_eq_true.2 fun x hx => List.all_eq_true.1 h x (List.mem_of_mem_drop hx)

end Go.Proofs.YtggiljlndenjoaaDoor.RatM
