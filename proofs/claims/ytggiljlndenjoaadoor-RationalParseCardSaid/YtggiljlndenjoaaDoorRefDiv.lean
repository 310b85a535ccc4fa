/- The reference's divided: a long division by 2 or 5, its digits appended one by one. -/
import Derived.Test.YtggiljlndenjoaaDoorRefDec
import Derived.WalkKit
import Derived.Below
import Derived.Maps.AppendAt
namespace Go.Proofs.YtggiljlndenjoaaDoor.RatM
open Go Go.RowKit Len

theorem info_u8 : (Tryd.prog.info? 5).map (fun i => (i.zero, i.size, i.bytes)) = some (some (.int .u8 0), 1, 1) := by kernel_rfl
def cellsL (l : List UInt8) : List Value := l.map fun c => .int .u8 (c.toNat : Int)
def dg (n : Nat) : UInt8 := UInt8.ofNat (48 + n)
theorem dg_nat {n : Nat} (h : n < 10) : (dg n).toNat = 48 + n := by
  unfold dg; rw [UInt8.toNat_ofNat']; omega
theorem dg_isD {n : Nat} (h : n < 10) : isD (dg n) = true := by
  unfold isD; rw [decide_eq_true_eq, dg_nat h]; omega
theorem num_one (c : UInt8) : num [c] = c.toNat - 48 := by
  rw [num_cons]; simp [Len.num_eq, numF_nil]
theorem num_snoc (l : List UInt8) (c : UInt8) : num (l ++ [c]) = num l * 10 + (c.toNat - 48) := by
  rw [num_append, num_one]; simp
/-- The digits read so far, those of the quotient, and the rest. -/
def Div (b : Nat) (ys q : List UInt8) (r : Nat) : Prop := q.length = ys.length ∧ q.all isD = true ∧ num q * b + r = num ys ∧ r < b
theorem div_nil {b : Nat} (h : 0 < b) : Div b [] [] 0 := ⟨rfl, rfl, by simp [Len.num_eq, numF_nil], h⟩
theorem quo_lt {b r : Nat} {c : UInt8} (hb : b = 2 ∨ b = 5) (hr : r < b) (hc : isD c = true) : (10 * r + (c.toNat - 48)) / b < 10 := by
  have := digit_le hc
  rcases hb with rfl | rfl <;> omega
theorem div_next {b : Nat} {ys q : List UInt8} {r : Nat} {c : UInt8} (hb : b = 2 ∨ b = 5) (h : Div b ys q r) (hc : isD c = true) :
    Div b (ys ++ [c]) (q ++ [dg ((10 * r + (c.toNat - 48)) / b)]) ((10 * r + (c.toNat - 48)) % b) := by
  obtain ⟨h1, h2, h3, h4⟩ := h
  have hq := quo_lt hb h4 hc
  refine ⟨by simp [h1], by simp [h2, dg_isD hq], ?_, Nat.mod_lt _ (by omega)⟩
  rw [num_snoc, num_snoc, dg_nat hq, ← h3]
  rcases hb with rfl | rfl <;> omega

theorem quo_byte {b r : Nat} {c : UInt8} (hb : b = 2 ∨ b = 5) (hr : r < b) (hc : isD c = true) :
    wrap64 (48 + (10 * (r : Int) + ((c.toNat - 48 : Nat) : Int)) / (b : Int)) % 256 = ((dg ((10 * r + (c.toNat - 48)) / b)).toNat : Int) := by
  have hq := quo_lt hb hr hc
  rw [dg_nat hq]
  have e : (10 * (r : Int) + ((c.toNat - 48 : Nat) : Int)) / (b : Int) = (((10 * r + (c.toNat - 48)) / b : Nat) : Int) := by push_cast; rfl
  rw [e]
  generalize (10 * r + (c.toNat - 48)) / b = y at hq
  unfold wrap64; omega

set_option maxHeartbeats 1600000 in
set_option maxRecDepth 100000 in
theorem refdivided_any (b : Nat) (hb : b = 2 ∨ b = 5) (g off cap : Nat) (ys : List UInt8) (w : World) (hl : ys.length ≤ 100) (hg : g < w.heap.size) (hd : Hid (ys.all isD = true))
    (hc : ∀ j (h : j < ys.length), w.cell? ⟨g, off + j, none⟩ = some (.int .u8 (ys[j].toNat : Int))) :
    Calls Tryd.prog 48 #[.slice (some ⟨g, off, none⟩) ys.length cap, .int .i64 (b : Int)] w fun e w' =>
      ∃ v q r, e = .returned v ∧ Div b ys q r ∧ w'.ownsRow w.heap.size 5 1 v q.length (cellsL q) ∧ Below w.heap.size w w' := by
  obtain ⟨i0, hi, hz0, hz1, hz2⟩ := info_parts info_u8
  go_enter Tryd.func48, Tryd.ntmps48
  go_wp2
  go_loopw [5, 6, 7] (fun v r i wr => ∃ k : Nat, k ≤ ys.length ∧ i = .int .i64 k ∧ ∃ (q : List UInt8) (n : Nat), r = .int .i64 (n : Int) ∧ Hid (Div b (ys.take k) q n) ∧ wr.ownsRow w.heap.size 5 1 v q.length (cellsL q) ∧ Below w.heap.size w wr)
    (fun _ _ i _ => ys.length - (intOf i).toNat)
  case atStart => exact ⟨0, Nat.zero_le _, rfl, [], 0, rfl, Lib.hid (div_nil (by omega)), World.ownsRow_nil _ _ _ _, Below.refl _ _⟩
  case round =>
    obtain ⟨k, hk, rfl, q, n, rfl, hD, hown, hbel⟩ := hrel
    by_cases hlt : k < ys.length
    · obtain ⟨c, ec⟩ : ∃ c, ys[k] = c := ⟨_, rfl⟩
      have hcx : wr.cell? ⟨g, off + k, none⟩ = some (.int .u8 (c.toNat : Int)) := by rw [← ec]; exact (hbel.cell (by exact hg)).trans (hc k hlt)
      have hcd : isD c = true := List.all_eq_true.1 hd.out c (by rw [← ec]; exact List.getElem_mem _)
      have h48 := digit_le hcd
      have hn : n < b := hD.out.2.2.2
      have hq : Hid (q.length = k) := Lib.hid (by rw [hD.out.1, List.length_take]; omega)
      have hnext : Hid (Div b (ys.take (k + 1)) (q ++ [dg ((10 * n + (c.toNat - 48)) / b)]) ((10 * n + (c.toNat - 48)) % b)) := Lib.hid (by
        rw [List.take_succ_eq_append_getElem hlt, ec]; exact div_next hb hD.out hcd)
      have hquo := quo_lt hb hn hcd
      obtain ⟨X, hX⟩ : ∃ X : Nat, X = 10 * n + (c.toNat - 48) := ⟨_, rfl⟩
      have eX : (10 * (n : Int) + ((c.toNat : Int) - 48)) = (X : Int) := by omega
      have hsz := hbel.size
      go_wp2_with (first
        | (at_builtin; refine wpList_append_own _ rfl _ _ 73 rfl w.heap.size 5 i0 (.int .u8 0) 1 1 Tryd.underlying73 hi hz0 hz1 hz2 rfl (by decide) _ _ _ rfl (hown.alloc _) ⟨wr.heap.size, 0, none⟩ 1 1 [_] rfl rfl (cell_one_new _ _ _) ?c2 ?c3 ?c4 ?c5 ?_)
        | fail)
      case c2 => intro u hu; simp at hu; subst hu; rfl
      case c3 => have := hq.out; unfold maxLen; omega
      case c4 => have := hq.out; omega
      case c5 => simp; omega
      intro v' w1 hown' hgrow _
      have hv := quo_byte hb hn hcd
      rw [hv] at hown'
      have hown2 : Hid (w1.ownsRow w.heap.size 5 1 v' (q ++ [dg ((10 * n + (c.toNat - 48)) / b)]).length (cellsL (q ++ [dg ((10 * n + (c.toNat - 48)) / b)]))) := Lib.hid (by
        unfold cellsL at hown' ⊢
        rw [List.map_append, List.length_append]
        exact hown')
      have hbel2 : Below w.heap.size w w1 := (hbel.alloc hsz _).grown hgrow (by simp; omega) (fun j hj => (hown.lt j hj).1)
      clear hown' hgrow hown hbel hcx
      go_wp2_with fail
      go_roundw
      case rel => exact ⟨k + 1, by omega, by go_num, _, (10 * n + (c.toNat - 48)) % b, by go_num, hnext, hown2.out, hbel2⟩
      case measure => simp [intOf]; omega
    · obtain rfl : k = ys.length := by omega
      rw [List.take_length] at hD
      go_wp2_with fail
      go_ret
      exact ⟨_, q, n, rfl, hD.out, hown, hbel⟩
end Go.Proofs.YtggiljlndenjoaaDoor.RatM
