/- The reference's reduced. -/
import Derived.Test.YtggiljlndenjoaaDoorRefDiv
import Derived.Test.YtggiljlndenjoaaDoorRatOps
import Derived.Test.YtggiljlndenjoaaDoorRatBlk
import Derived.Lib.SmallJoins
import Derived.Laws.IdiomStrings
namespace Go.Proofs.YtggiljlndenjoaaDoor.RatM
open Go Go.RowKit Len

/-- Digits in cells. -/
def RowAt (w : World) (g off : Nat) (ys : List UInt8) : Prop := ∀ j (h : j < ys.length), w.cell? ⟨g, off + j, none⟩ = some (.int .u8 (ys[j].toNat : Int))
theorem rowAt_below {w w' : World} {B g off : Nat} {ys : List UInt8} (h : RowAt w g off ys) (hb : Below B w w') (hg : g < B) : RowAt w' g off ys := fun j hj => (hb.cell (by exact hg)).trans (h j hj)
theorem rowAt_owns {w : World} {base g n cap : Nat} {q : List UInt8} {e : TypeId} (h : w.ownsRow base e 1 (.slice (some ⟨g, 0, none⟩) n cap) q.length (cellsL q)) : RowAt w g 0 q ∧ base ≤ g ∧ g < w.heap.size := by
  have h2 := h.lt g rfl
  refine ⟨fun j hj => ?_, h2.1, h2.2⟩
  have := h.cells (g := g) rfl j (.int .u8 (q[j].toNat : Int)) (by unfold cellsL; simp [hj])
  have e : (⟨g, 0, none⟩ : Addr).add j = ⟨g, 0 + j, none⟩ := by unfold Addr.add; split <;> simp_all
  rw [e] at this
  exact this
theorem owns_cap {w : World} {base g n cap size : Nat} {xs : List Value} {e : TypeId} (h : w.ownsRow base e size (.slice (some ⟨g, 0, none⟩) n cap) n xs) : n ≤ cap := by
  rcases h.2 with ⟨h1, _⟩ | ⟨g', cap', cur, h1, _, _, h2, _⟩
  · cases h1
  · cases h1; exact h2
theorem row_made (w : World) (s : ByteArray) (c : Nat) (e : TypeId) (m : Nat × Nat) : RowAt (w.alloc (.cells (bytesRow s c) e m)) w.heap.size 0 s.data.toList := by
  intro j hj
  have hj' : j < s.size := by simpa using hj
  rw [cell_of_row _ _ _ _ e m (heap_alloc_new w _), Nat.zero_add]
  unfold bytesRow
  rw [Array.getElem?_append_left (by simp; exact hj')]
  simp [hj']

/-- '[]byte(s)', with the new array's size hidden -/
theorem bytes_hid (W : World) (s : ByteArray) (H : Nat) (hH : W.heap.size = H) : ∃ cap W1, (convert 9 73 (.string s)).run Tryd.prog W = .ok (.slice (some ⟨H, 0, none⟩) s.size cap) W1 ∧ s.size ≤ cap ∧ RowAt W1 H 0 s.data.toList ∧ Below W.heap.size W W1 ∧ H < W1.heap.size := by
  subst hH
  exact ⟨_, _, run_bytes_of_string W _ _ 5 s Tryd.underlying9 Tryd.underlying73 Tryd.underlying5, grownCap_ge _ _ _ _, row_made W.drew s _ _ _, ((Below.refl _ _).drew).alloc (Nat.le_refl _) _, by show _ < (W.heap.push _).size; simp⟩

structure DgL (ys : List UInt8) : Prop where
  all : ys.all isD = true
  pos : 0 < ys.length
  le : ys.length ≤ 60
theorem last_num (ys : List UInt8) (h : 0 < ys.length) : num ys = num (ys.take (ys.length - 1)) * 10 + ((ys[ys.length - 1]).toNat - 48) := by
  rw [← num_snoc]
  congr 1
  have := List.take_succ_eq_append_getElem (l := ys) (i := ys.length - 1) (by omega)
  rw [← this, List.take_of_length_le (by omega)]
theorem last_div {p d : Nat} {ys : List UInt8} (hp : p = 2 ∨ p = 5) (h : 0 < ys.length) (hd : d = (ys[ys.length - 1]).toNat - 48) : num ys % p = d % p := by
  have e := last_num ys h
  rw [← hd] at e
  rcases hp with rfl | rfl <;> omega

/-- divided, at digits that it divides -/
theorem part_any (p : Nat) (hp : p = 2 ∨ p = 5) (P : Int) (hP : P = (p : Int)) (g off n cap : Nat) (ys : List UInt8) (w : World) (hn : n = ys.length) (hg : g < w.heap.size) (hd : Hid (DgL ys)) (h0 : Hid (num ys % p = 0)) (hr : Hid (RowAt w g off ys)) :
    Calls Tryd.prog 48 #[.slice (some ⟨g, off, none⟩) n cap, .int .i64 P] w fun e w' =>
      ∃ g' cap' q, e = .returned (.slice (some ⟨g', 0, none⟩) (List.length q) cap') ∧ List.length q ≤ cap' ∧ Hid (DgL q) ∧ Hid (num q * p = num ys) ∧ Hid (RowAt w' g' 0 q) ∧ g' < w'.heap.size ∧ Below w.heap.size w w' := by
  subst hP hn
  refine (refdivided_any p hp g off cap ys w (by have := hd.out.le; omega) hg (Lib.hid hd.out.all) hr.out).mono ?_
  rintro e w' ⟨v, q, r, rfl, ⟨h1, h2, h3, h4⟩, hown, hb⟩
  have hq : 0 < q.length := by have := hd.out.pos; omega
  obtain ⟨g', cap', rfl⟩ := Joins.ownsRow_form hown hq
  obtain ⟨r1, r2, r3⟩ := rowAt_owns hown
  have hz : r = 0 := by
    have := h0.out
    rw [← h3, Nat.mul_add_mod_self_right] at this
    rwa [Nat.mod_eq_of_lt h4] at this
  exact ⟨g', cap', q, rfl, owns_cap hown, Lib.hid ⟨h2, hq, by have := hd.out.le; omega⟩, Lib.hid (by omega), Lib.hid r1, r3, hb⟩

theorem below_start {w W1 : World} {o : Obj} (hb : Below (w.alloc o).heap.size (w.alloc o) W1) : Below w.heap.size w W1 := ((Below.refl _ _).alloc (Nat.le_refl _) _).trans (hb.mono (by simp))
theorem below_go {w W1 W2 : World} (h : Below w.heap.size w W1) (hb : Below W1.heap.size W1 W2) : Below w.heap.size w W2 := h.trans (hb.mono h.size)

def lenOf : Value → Nat
  | .slice _ n _ => n
  | _ => 0
theorem odd_of {a D M j : Nat} (h : a = 0 ∨ M % 2 = 1) (e : D * 5 ^ j = M) : a = 0 ∨ D % 2 = 1 := by
  rcases h with h | h
  · exact .inl h
  · right
    rcases Nat.mod_two_eq_zero_or_one D with h0 | h0
    · rw [← e, Nat.mul_mod, h0] at h; simp at h
    · exact h0
theorem pow10_le {k m : Nat} (h : k ≤ m) : 10 ^ k ≤ 10 ^ m := Nat.pow_le_pow_right (by decide) h
theorem big_num {us : List UInt8} (ha : us.all isD = true) (h1 : us.length = 1 ∨ ∃ h : 0 < us.length, us[0] ≠ 48) (h : 10 < us.length) : 2147483647 < num us := by
  rcases h1 with h1 | ⟨hp, h1⟩
  · omega
  · cases us with
    | nil => simp at h
    | cons c r =>
      simp only [List.all_cons, Bool.and_eq_true] at ha
      have hc := digit_le ha.1
      have hne : c.toNat ≠ 48 := fun e => h1 (UInt8.toNat_inj.1 (show c.toNat = (48 : UInt8).toNat by rw [e]; rfl))
      have h2 := pow10_le (show 10 ≤ r.length by simp at h; omega)
      have h3 : 1 * 10 ^ r.length ≤ (c.toNat - 48) * 10 ^ r.length := Nat.mul_le_mul_right _ (by omega)
      rw [num_cons]
      have : (10 : Nat) ^ 10 = 10000000000 := by decide
      omega
theorem small_num {us : List UInt8} {k : Nat} (ha : us.all isD = true) (h : k ≤ 10) : num (us.take k) ≤ 10000000000 := by
  have h1 := num_lt (us.take k) (List.all_eq_true.2 fun x hx => List.all_eq_true.1 ha x (List.mem_of_mem_take hx))
  have h2 := pow10_le (show (us.take k).length ≤ 10 by rw [List.length_take]; omega)
  have : (10 : Nat) ^ 10 = 10000000000 := by decide
  omega

set_option maxHeartbeats 8000000 in
set_option maxRecDepth 100000 in
theorem reduced_any (s : ByteArray) (t : Nat) (w : World) (hl : s.size ≤ 60) (ht : t ≤ 40) (h0 : 0 < s.size) (hd : Hid (s.data.toList.all isD = true)) :
    Calls Tryd.prog 33 #[.string s, .int .i64 (t : Int)] w (Ret (repr (Rat.divInt (num s.data.toList : Int) ((10 ^ t : Nat) : Int))) w) := by
  obtain ⟨cap, W1, hconv, hcap, hrow, hb1, hlt1⟩ := bytes_hid (w.alloc (.cells #[.int .i64 0, .int .i64 0] 28)) s (w.heap.size + 1) (by simp)
  obtain ⟨L, hL⟩ : ∃ L, s.data.toList = L := ⟨_, rfl⟩
  have hLl : L.length = s.size := by rw [← hL]; simp
  rw [hL] at hd hrow ⊢
  obtain ⟨R, hR⟩ : ∃ R, repr (Rat.divInt (num L : Int) ((10 ^ t : Nat) : Int)) = R := ⟨_, rfl⟩
  rw [hR]
  have HR := Lib.hid hR
  have hrow := Lib.hid hrow
  have hB0 := Blk.freshA hb1
  have hB1 := below_start hb1
  clear hR hb1 hL
  go_enter Tryd.func33, Tryd.ntmps33
  go_wp2
  go_loopw [6, 8] (fun tw v wr => ∃ (a i g off c : Nat) (ys : List UInt8), tw = .int .i64 (a : Int) ∧ v = .slice (some ⟨g, off, none⟩) ys.length c ∧ ys.length ≤ c ∧ a + i = t ∧ Hid (DgL ys) ∧ Hid (num ys * 2 ^ i = num L) ∧ Hid (RowAt wr g off ys) ∧ g < wr.heap.size ∧ Blk wr w.heap.size #[.int .i64 0, .int .i64 0] 28 ∧ Below w.heap.size w wr) (fun tw _ _ => (intOf tw).toNat)
  case atStart => exact ⟨t, 0, _, 0, cap, L, rfl, by rw [hLl], by omega, by omega, Lib.hid ⟨hd.out, by omega, by omega⟩, Lib.hid (by simp), hrow, by omega, hB0, hB1⟩
  case round =>
    clear hrow hB0 hB1 hlt1 hconv hd
    obtain ⟨a, i, g, off, c, ys, rfl, rfl, hc, hai, hD, hN, hrw, hg, hB0, hB1⟩ := hrel
    have hpos := hD.out.pos
    have hle := hD.out.le
    obtain ⟨d, hd0⟩ : ∃ d, ys[ys.length - 1] = d := ⟨_, rfl⟩
    have hcell : wr.cell? ⟨g, off + (ys.length - 1), none⟩ = some (.int .u8 (d.toNat : Int)) := by rw [← hd0]; exact hrw.out _ (by omega)
    have h48 := digit_le (List.all_eq_true.1 hD.out.all d (by rw [← hd0]; exact List.getElem_mem _))
    have hmod : Hid (num ys % 2 = (d.toNat - 48) % 2) := Lib.hid (last_div (.inl rfl) hpos (by rw [hd0]))
    clear hd0
    by_cases ha : 0 < a
    · by_cases hev : (d.toNat - 48) % 2 = 0
      · have hz : Hid (num ys % 2 = 0) := Lib.hid (by rw [hmod.out, hev])
        clear hmod
        go_wp2_with (go_at_call 48; refine (part_any 2 (.inl rfl) 2 rfl g off _ c ys _ rfl hg hD hz hrw).mono ?_; rintro e w' ⟨g', c', q, rfl, hc', hD', hN', hrw', hg', hbel⟩)
        go_roundw
        case rel => exact ⟨a - 1, i + 1, g', 0, c', q, by go_num, rfl, hc', by omega, hD', Lib.hid (by rw [Nat.pow_succ, Nat.mul_comm (2 ^ i), ← Nat.mul_assoc, hN'.out]; exact hN.out), hrw', hg', hB0.go hbel, below_go hB1 hbel⟩
        case measure => simp [intOf]; omega
      · have hodd : Hid (a = 0 ∨ num ys % 2 = 1) := Lib.hid (by have := hmod.out; omega)
        have hbe : (((d.toNat : Int) - 48) % 2 == 0) = false := by rw [beq_eq_false_iff_ne]; omega
        clear hmod hev
        go_wp2_with fail
        first | clear hbe ha | clear ha
        go_loopw [7, 8] (fun tw v wr => ∃ (b j g off c : Nat) (zs : List UInt8), tw = .int .i64 (b : Int) ∧ v = .slice (some ⟨g, off, none⟩) zs.length c ∧ zs.length ≤ c ∧ b + j = t ∧ Hid (DgL zs) ∧ Hid (num zs * 5 ^ j = num ys) ∧ Hid (RowAt wr g off zs) ∧ g < wr.heap.size ∧ Blk wr w.heap.size #[.int .i64 0, .int .i64 0] 28 ∧ Below w.heap.size w wr) (fun tw _ _ => (intOf tw).toNat)
        case atStart => exact ⟨t, 0, g, off, c, ys, rfl, rfl, hc, by omega, hD, Lib.hid (by simp), hrw, hg, hB0, hB1⟩
        case round =>
          clear hD hrw hg hB0 hB1 hpos hle hcell h48 hc
          obtain ⟨b, j, g, off, c, zs, rfl, rfl, hc, hbj, hD, hN2, hrw, hg, hB2, hB3⟩ := hrel
          have hpos := hD.out.pos
          have hle := hD.out.le
          obtain ⟨d, hd0⟩ : ∃ d, zs[zs.length - 1] = d := ⟨_, rfl⟩
          have hcell : wr.cell? ⟨g, off + (zs.length - 1), none⟩ = some (.int .u8 (d.toNat : Int)) := by rw [← hd0]; exact hrw.out _ (by omega)
          have h48 := digit_le (List.all_eq_true.1 hD.out.all d (by rw [← hd0]; exact List.getElem_mem _))
          have hmod : Hid (num zs % 5 = (d.toNat - 48) % 5) := Lib.hid (last_div (.inr rfl) hpos (by rw [hd0]))
          clear hd0
          by_cases hb : 0 < b
          · by_cases hev : (d.toNat - 48) % 5 = 0
            · have hz : Hid (num zs % 5 = 0) := Lib.hid (by rw [hmod.out, hev])
              clear hmod
              go_wp2_with (go_at_call 48; refine (part_any 5 (.inr rfl) 5 rfl g off _ c zs _ rfl hg hD hz hrw).mono ?_; rintro e w' ⟨g', c', q, rfl, hc', hD', hN', hrw', hg', hbel⟩)
              go_roundw
              case rel => exact ⟨b - 1, j + 1, g', 0, c', q, by go_num, rfl, hc', by omega, hD', Lib.hid (by rw [Nat.pow_succ, Nat.mul_comm (5 ^ j), ← Nat.mul_assoc, hN'.out]; exact hN2.out), hrw', hg', hB2.go hbel, below_go hB3 hbel⟩
              case measure => simp [intOf]; omega
            · have hfive : Hid (b = 0 ∨ num zs % 5 ≠ 0) := Lib.hid (by have := hmod.out; omega)
              have hbe : (((d.toNat : Int) - 48) % 5 == 0) = false := by rw [beq_eq_false_iff_ne]; omega
              clear hmod hev
              go_wp2_with fail
              first | clear hbe hb | clear hb
              go_loop [8] (fun v => ∃ (off c : Nat) (us : List UInt8), v = .slice (some ⟨g, off, none⟩) us.length c ∧ us.length ≤ c ∧ Hid (DgL us) ∧ Hid (num us = num zs) ∧ Hid (RowAt wr g off us)) (fun v => lenOf v)
              case atStart => exact ⟨off, c, zs, rfl, hc, hD, Lib.hid rfl, hrw⟩
              case round =>
                clear hrw hc hD
                obtain ⟨off, c, us, rfl, hc, hU1, hU, hU2⟩ := hrel
                have hpos := hU1.out.pos
                have hle := hU1.out.le
                obtain ⟨d, hd0⟩ : ∃ d, us[0] = d := ⟨_, rfl⟩
                have hcell : wr.cell? ⟨g, off, none⟩ = some (.int .u8 (d.toNat : Int)) := by rw [← hd0]; exact hU2.out 0 hpos
                by_cases h1 : 1 < us.length
                · by_cases hz : d = 48
                  · obtain ⟨us', hus⟩ : ∃ us', us = 48 :: us' := by
                      cases us with
                      | nil => simp at hpos
                      | cons x r => exact ⟨r, by rw [← hz, ← hd0]; rfl⟩
                    rw [hz] at hcell
                    replace hcell : wr.cell? ⟨g, off, none⟩ = some (.int .u8 48) := hcell
                    have hul : us'.length = us.length - 1 := by rw [hus]; simp
                    have hU1' : Hid (DgL us') := Lib.hid (by have := hU1.out.all; rw [hus] at this; simp only [List.all_cons, Bool.and_eq_true] at this; exact ⟨this.2, by omega, by omega⟩)
                    have hU' : Hid (num us' = num zs) := Lib.hid (by rw [← hU.out, hus, num_cons]; simp)
                    have hU2' : Hid (RowAt wr g (off + 1) us') := Lib.hid fun j hj => by have := hU2.out (j + 1) (by omega); simp only [hus] at this; simpa [Nat.add_assoc, Nat.add_comm 1] using this
                    clear hd0 hU hU1 hU2 hz hus
                    go_wp2_with fail
                    go_round
                    case rel => exact ⟨off + 1, c - 1, us', by rw [hul], by omega, hU1', hU', hU2'⟩
                    case measure => simp [lenOf]; omega
                  · have hb : ((d.toNat : Int) == 48) = false := by rw [beq_eq_false_iff_ne]; intro e; exact hz (UInt8.toNat_inj.1 (show d.toNat = 48 by omega))
                    have h1 : Hid (us.length = 1 ∨ ∃ h : 0 < us.length, us[0] ≠ 48) := Lib.hid (.inr ⟨hpos, by rw [hd0]; exact hz⟩)
                    clear hd0 hz
                    have h2 : Hid (a = 0 ∨ num us % 2 = 1) := Lib.hid (odd_of hodd.out (by rw [hU.out]; exact hN2.out))
                    have h5 : Hid (b = 0 ∨ num us % 5 ≠ 0) := Lib.hid (by rw [hU.out]; exact hfive.out)
                    have HT : Hid (repr (Rat.divInt (num us : Int) ((2 ^ a * 5 ^ b : Nat) : Int)) = R) := Lib.hid (by rw [← HR.out, taken (N := num L) (D := num us) hai hbj (by rw [Nat.mul_right_comm, hU.out, hN2.out, hN.out])])
                    by_cases hten : 10 < us.length
                    · first
                        | (exfalso; omega)
                        | (have fin : Hid (R = (0, 0, 2)) := Lib.hid (by rw [← HT.out]; exact low_big h2.out h5.out (by left; exact big_num hU1.out.all h1.out hten))
                           have z0 := hB2.cellv 0 _ rfl
                           have z1 := hB2.cellv 1 _ rfl
                           have f0 := hB2.free 0
                           have f1 := hB2.free 1
                           go_wp2_with fail
                           exact bodyPost_ret (v := .tuple #[.agg #[.int .i64 0, .int .i64 0], .int .i64 2]) (by simp [results, Tryd.results33, go_sem, z0, z1]) rfl (ret_of fin.out (by first | exact hB3 | exact below_setAt hB3 _ (Nat.le_refl _) _ _)))
                    · have hall := Lib.hid hU1.out.all
                      clear hN hN2 hU hodd hfive HR hU1 h1
                      go_wp2_with fail
                      go_loop [9, 11] (fun nv iv => ∃ k n : Nat, k ≤ us.length ∧ iv = .int .i64 (k : Int) ∧ nv = .int .i64 (n : Int) ∧ n ≤ 10000000000 ∧ Hid (num (us.take k) = n)) (fun _ iv => us.length - (intOf iv).toNat)
                      case atStart => exact ⟨0, 0, Nat.zero_le _, rfl, rfl, by omega, Lib.hid (by simp [Len.num_eq, numF_nil])⟩
                      case round =>
                        obtain ⟨k, n, hk, rfl, rfl, hn, en⟩ := hrel
                        by_cases hlt : k < us.length
                        · obtain ⟨d, ed⟩ : ∃ d, us[k] = d := ⟨_, rfl⟩
                          have hcell : wr.cell? ⟨g, off + k, none⟩ = some (.int .u8 (d.toNat : Int)) := by rw [← ed]; exact hU2.out _ hlt
                          have h48 := digit_le (List.all_eq_true.1 hall.out d (by rw [← ed]; exact List.getElem_mem _))
                          have nxt : Hid (num (us.take (k + 1)) = 10 * n + (d.toNat - 48)) := Lib.hid (by rw [List.take_succ_eq_append_getElem hlt, num_snoc, en.out, ed, Nat.mul_comm])
                          have hlim : 10 * n + (d.toNat - 48) ≤ 10000000000 := by rw [← nxt.out]; exact small_num hall.out (by omega)
                          clear ed
                          go_wp2_with fail
                          go_round
                          case rel => exact ⟨k + 1, 10 * n + (d.toNat - 48), by omega, by go_num, by go_num, hlim, nxt⟩
                          case measure => simp [intOf]; omega
                        · obtain rfl : k = us.length := by omega
                          rw [List.take_length] at en
                          rw [en.out] at h2 h5 HT
                          go_wp2_with fail
                          go_loop [10, 12] (fun dv iv => ∃ k m : Nat, k ≤ a ∧ iv = .int .i64 (k : Int) ∧ dv = .int .i64 (m : Int) ∧ m ≤ 2147483647 ∧ Hid (m = 2 ^ k)) (fun _ iv => a - (intOf iv).toNat)
                          case atStart => exact ⟨0, 1, Nat.zero_le _, rfl, rfl, by omega, Lib.hid rfl⟩
                          case round =>
                            obtain ⟨k, m, hk, rfl, rfl, hm, em⟩ := hrel
                            by_cases hlt : k < a
                            · by_cases hbig : 2147483647 < m * 2
                              · have fin : Hid (R = (0, 0, 2)) := Lib.hid (by rw [← HT.out]; exact low_big h2.out h5.out (by right; have h := Nat.pow_le_pow_right (n := 2) (by decide) (show k + 1 ≤ a by omega); have h' := Nat.mul_le_mul h (Nat.one_le_pow b 5 (by decide)); rw [Nat.pow_succ, ← em.out, Nat.mul_one] at h'; omega))
                                have z0 := hB2.cellv 0 _ rfl
                                have z1 := hB2.cellv 1 _ rfl
                                have f0 := hB2.free 0
                                have f1 := hB2.free 1
                                go_wp2_with fail
                                exact bodyPost_ret (v := .tuple #[.agg #[.int .i64 0, .int .i64 0], .int .i64 2]) (by simp [results, Tryd.results33, go_sem, z0, z1]) rfl (ret_of fin.out (by first | exact hB3 | exact below_setAt hB3 _ (Nat.le_refl _) _ _))
                              · have nxt : Hid (m * 2 = 2 ^ (k + 1)) := Lib.hid (by rw [Nat.pow_succ, ← em.out])
                                go_wp2_with fail
                                go_round
                                case rel => exact ⟨k + 1, m * 2, by omega, by go_num, by go_num, by omega, nxt⟩
                                case measure => simp [intOf]; omega
                            · obtain rfl : a = k := by omega
                              have hm5 := hm
                              have e5 := em
                              go_wp2_with fail
                              go_loop [10, 13] (fun dv iv => ∃ k m : Nat, k ≤ b ∧ iv = .int .i64 (k : Int) ∧ dv = .int .i64 (m : Int) ∧ m ≤ 2147483647 ∧ Hid (m = 2 ^ a * 5 ^ k)) (fun _ iv => b - (intOf iv).toNat)
                              case atStart => exact ⟨0, m, Nat.zero_le _, rfl, rfl, hm5, Lib.hid (by rw [Nat.pow_zero, Nat.mul_one]; exact e5.out)⟩
                              case round =>
                                clear e5 hm5 hm em hk
                                obtain ⟨k, m, hk, rfl, rfl, hm, em⟩ := hrel
                                by_cases hlt : k < b
                                · by_cases hbig : 2147483647 < m * 5
                                  · have fin : Hid (R = (0, 0, 2)) := Lib.hid (by rw [← HT.out]; exact low_big h2.out h5.out (by right; have h := Nat.pow_le_pow_right (n := 5) (by decide) (show k + 1 ≤ b by omega); have h' := Nat.mul_le_mul_left (2 ^ a) h; rw [Nat.pow_succ, ← Nat.mul_assoc, ← em.out] at h'; omega))
                                    have z0 := hB2.cellv 0 _ rfl
                                    have z1 := hB2.cellv 1 _ rfl
                                    have f0 := hB2.free 0
                                    have f1 := hB2.free 1
                                    go_wp2_with fail
                                    exact bodyPost_ret (v := .tuple #[.agg #[.int .i64 0, .int .i64 0], .int .i64 2]) (by simp [results, Tryd.results33, go_sem, z0, z1]) rfl (ret_of fin.out (by first | exact hB3 | exact below_setAt hB3 _ (Nat.le_refl _) _ _))
                                  · have nxt : Hid (m * 5 = 2 ^ a * 5 ^ (k + 1)) := Lib.hid (by rw [Nat.pow_succ, ← Nat.mul_assoc, ← em.out])
                                    go_wp2_with fail
                                    go_round
                                    case rel => exact ⟨k + 1, m * 5, by omega, by go_num, by go_num, by omega, nxt⟩
                                    case measure => simp [intOf]; omega
                                · obtain rfl : b = k := by omega
                                  have HM : Hid (makeZ (n : Int) (m : Int) = R) := Lib.hid (by
                                    have hp : 0 < m := by rw [em.out]; exact Nat.mul_pos (Nat.pow_pos (by decide)) (Nat.pow_pos (by decide))
                                    rw [makeZ, if_neg (by omega), em.out]; exact HT.out)
                                  clear h2 h5 HT em
                                  go_wp2_with fail
                                  refine (make_ret HM _ (by omega) (by omega) (by omega) (by omega)).mono ?_
                                  rintro e w' ⟨rfl, hb'⟩
                                  have hB4 := hB2.go hb'
                                  have z0 := hB4.cellv 0 _ rfl
                                  have z1 := hB4.cellv 1 _ rfl
                                  have f0 := hB4.free 0
                                  have f1 := hB4.free 1
                                  have hB5 := below_go hB3 hb'
                                  clear hb'
                                  go_wp2_with fail
                                  exact bodyPost_ret (v := .tuple #[.agg #[.int .i64 R.1, .int .i64 R.2.1], .int .i64 R.2.2]) (by simp [results, Tryd.results33, go_sem, z0, z1]) rfl ⟨rfl, by first | exact hB5 | exact below_setAt hB5 _ (Nat.le_refl _) _ _⟩
                · have hl1 : us.length = 1 := by omega
                  have h1 : Hid (us.length = 1 ∨ ∃ h : 0 < us.length, us[0] ≠ 48) := Lib.hid (.inl hl1)
                  clear hd0
                  have h2 : Hid (a = 0 ∨ num us % 2 = 1) := Lib.hid (odd_of hodd.out (by rw [hU.out]; exact hN2.out))
                  have h5 : Hid (b = 0 ∨ num us % 5 ≠ 0) := Lib.hid (by rw [hU.out]; exact hfive.out)
                  have HT : Hid (repr (Rat.divInt (num us : Int) ((2 ^ a * 5 ^ b : Nat) : Int)) = R) := Lib.hid (by rw [← HR.out, taken (N := num L) (D := num us) hai hbj (by rw [Nat.mul_right_comm, hU.out, hN2.out, hN.out])])
                  by_cases hten : 10 < us.length
                  · first
                      | (exfalso; omega)
                      | (have fin : Hid (R = (0, 0, 2)) := Lib.hid (by rw [← HT.out]; exact low_big h2.out h5.out (by left; exact big_num hU1.out.all h1.out hten))
                         have z0 := hB2.cellv 0 _ rfl
                         have z1 := hB2.cellv 1 _ rfl
                         have f0 := hB2.free 0
                         have f1 := hB2.free 1
                         go_wp2_with fail
                         exact bodyPost_ret (v := .tuple #[.agg #[.int .i64 0, .int .i64 0], .int .i64 2]) (by simp [results, Tryd.results33, go_sem, z0, z1]) rfl (ret_of fin.out (by first | exact hB3 | exact below_setAt hB3 _ (Nat.le_refl _) _ _)))
                  · have hall := Lib.hid hU1.out.all
                    clear hN hN2 hU hodd hfive HR hU1 h1
                    go_wp2_with fail
                    go_loop [9, 11] (fun nv iv => ∃ k n : Nat, k ≤ us.length ∧ iv = .int .i64 (k : Int) ∧ nv = .int .i64 (n : Int) ∧ n ≤ 10000000000 ∧ Hid (num (us.take k) = n)) (fun _ iv => us.length - (intOf iv).toNat)
                    case atStart => exact ⟨0, 0, Nat.zero_le _, rfl, rfl, by omega, Lib.hid (by simp [Len.num_eq, numF_nil])⟩
                    case round =>
                      obtain ⟨k, n, hk, rfl, rfl, hn, en⟩ := hrel
                      by_cases hlt : k < us.length
                      · obtain ⟨d, ed⟩ : ∃ d, us[k] = d := ⟨_, rfl⟩
                        have hcell : wr.cell? ⟨g, off + k, none⟩ = some (.int .u8 (d.toNat : Int)) := by rw [← ed]; exact hU2.out _ hlt
                        have h48 := digit_le (List.all_eq_true.1 hall.out d (by rw [← ed]; exact List.getElem_mem _))
                        have nxt : Hid (num (us.take (k + 1)) = 10 * n + (d.toNat - 48)) := Lib.hid (by rw [List.take_succ_eq_append_getElem hlt, num_snoc, en.out, ed, Nat.mul_comm])
                        have hlim : 10 * n + (d.toNat - 48) ≤ 10000000000 := by rw [← nxt.out]; exact small_num hall.out (by omega)
                        clear ed
                        go_wp2_with fail
                        go_round
                        case rel => exact ⟨k + 1, 10 * n + (d.toNat - 48), by omega, by go_num, by go_num, hlim, nxt⟩
                        case measure => simp [intOf]; omega
                      · obtain rfl : k = us.length := by omega
                        rw [List.take_length] at en
                        rw [en.out] at h2 h5 HT
                        go_wp2_with fail
                        go_loop [10, 12] (fun dv iv => ∃ k m : Nat, k ≤ a ∧ iv = .int .i64 (k : Int) ∧ dv = .int .i64 (m : Int) ∧ m ≤ 2147483647 ∧ Hid (m = 2 ^ k)) (fun _ iv => a - (intOf iv).toNat)
                        case atStart => exact ⟨0, 1, Nat.zero_le _, rfl, rfl, by omega, Lib.hid rfl⟩
                        case round =>
                          obtain ⟨k, m, hk, rfl, rfl, hm, em⟩ := hrel
                          by_cases hlt : k < a
                          · by_cases hbig : 2147483647 < m * 2
                            · have fin : Hid (R = (0, 0, 2)) := Lib.hid (by rw [← HT.out]; exact low_big h2.out h5.out (by right; have h := Nat.pow_le_pow_right (n := 2) (by decide) (show k + 1 ≤ a by omega); have h' := Nat.mul_le_mul h (Nat.one_le_pow b 5 (by decide)); rw [Nat.pow_succ, ← em.out, Nat.mul_one] at h'; omega))
                              have z0 := hB2.cellv 0 _ rfl
                              have z1 := hB2.cellv 1 _ rfl
                              have f0 := hB2.free 0
                              have f1 := hB2.free 1
                              go_wp2_with fail
                              exact bodyPost_ret (v := .tuple #[.agg #[.int .i64 0, .int .i64 0], .int .i64 2]) (by simp [results, Tryd.results33, go_sem, z0, z1]) rfl (ret_of fin.out (by first | exact hB3 | exact below_setAt hB3 _ (Nat.le_refl _) _ _))
                            · have nxt : Hid (m * 2 = 2 ^ (k + 1)) := Lib.hid (by rw [Nat.pow_succ, ← em.out])
                              go_wp2_with fail
                              go_round
                              case rel => exact ⟨k + 1, m * 2, by omega, by go_num, by go_num, by omega, nxt⟩
                              case measure => simp [intOf]; omega
                          · obtain rfl : a = k := by omega
                            have hm5 := hm
                            have e5 := em
                            go_wp2_with fail
                            go_loop [10, 13] (fun dv iv => ∃ k m : Nat, k ≤ b ∧ iv = .int .i64 (k : Int) ∧ dv = .int .i64 (m : Int) ∧ m ≤ 2147483647 ∧ Hid (m = 2 ^ a * 5 ^ k)) (fun _ iv => b - (intOf iv).toNat)
                            case atStart => exact ⟨0, m, Nat.zero_le _, rfl, rfl, hm5, Lib.hid (by rw [Nat.pow_zero, Nat.mul_one]; exact e5.out)⟩
                            case round =>
                              clear e5 hm5 hm em hk
                              obtain ⟨k, m, hk, rfl, rfl, hm, em⟩ := hrel
                              by_cases hlt : k < b
                              · by_cases hbig : 2147483647 < m * 5
                                · have fin : Hid (R = (0, 0, 2)) := Lib.hid (by rw [← HT.out]; exact low_big h2.out h5.out (by right; have h := Nat.pow_le_pow_right (n := 5) (by decide) (show k + 1 ≤ b by omega); have h' := Nat.mul_le_mul_left (2 ^ a) h; rw [Nat.pow_succ, ← Nat.mul_assoc, ← em.out] at h'; omega))
                                  have z0 := hB2.cellv 0 _ rfl
                                  have z1 := hB2.cellv 1 _ rfl
                                  have f0 := hB2.free 0
                                  have f1 := hB2.free 1
                                  go_wp2_with fail
                                  exact bodyPost_ret (v := .tuple #[.agg #[.int .i64 0, .int .i64 0], .int .i64 2]) (by simp [results, Tryd.results33, go_sem, z0, z1]) rfl (ret_of fin.out (by first | exact hB3 | exact below_setAt hB3 _ (Nat.le_refl _) _ _))
                                · have nxt : Hid (m * 5 = 2 ^ a * 5 ^ (k + 1)) := Lib.hid (by rw [Nat.pow_succ, ← Nat.mul_assoc, ← em.out])
                                  go_wp2_with fail
                                  go_round
                                  case rel => exact ⟨k + 1, m * 5, by omega, by go_num, by go_num, by omega, nxt⟩
                                  case measure => simp [intOf]; omega
                              · obtain rfl : b = k := by omega
                                have HM : Hid (makeZ (n : Int) (m : Int) = R) := Lib.hid (by
                                  have hp : 0 < m := by rw [em.out]; exact Nat.mul_pos (Nat.pow_pos (by decide)) (Nat.pow_pos (by decide))
                                  rw [makeZ, if_neg (by omega), em.out]; exact HT.out)
                                clear h2 h5 HT em
                                go_wp2_with fail
                                refine (make_ret HM _ (by omega) (by omega) (by omega) (by omega)).mono ?_
                                rintro e w' ⟨rfl, hb'⟩
                                have hB4 := hB2.go hb'
                                have z0 := hB4.cellv 0 _ rfl
                                have z1 := hB4.cellv 1 _ rfl
                                have f0 := hB4.free 0
                                have f1 := hB4.free 1
                                have hB5 := below_go hB3 hb'
                                clear hb'
                                go_wp2_with fail
                                exact bodyPost_ret (v := .tuple #[.agg #[.int .i64 R.1, .int .i64 R.2.1], .int .i64 R.2.2]) (by simp [results, Tryd.results33, go_sem, z0, z1]) rfl ⟨rfl, by first | exact hB5 | exact below_setAt hB5 _ (Nat.le_refl _) _ _⟩
          · have hfive : Hid (b = 0 ∨ num zs % 5 ≠ 0) := Lib.hid (by omega)
            clear hmod
            go_wp2_with fail
            first | clear hbe hb | clear hb
            go_loop [8] (fun v => ∃ (off c : Nat) (us : List UInt8), v = .slice (some ⟨g, off, none⟩) us.length c ∧ us.length ≤ c ∧ Hid (DgL us) ∧ Hid (num us = num zs) ∧ Hid (RowAt wr g off us)) (fun v => lenOf v)
            case atStart => exact ⟨off, c, zs, rfl, hc, hD, Lib.hid rfl, hrw⟩
            case round =>
              clear hrw hc hD
              obtain ⟨off, c, us, rfl, hc, hU1, hU, hU2⟩ := hrel
              have hpos := hU1.out.pos
              have hle := hU1.out.le
              obtain ⟨d, hd0⟩ : ∃ d, us[0] = d := ⟨_, rfl⟩
              have hcell : wr.cell? ⟨g, off, none⟩ = some (.int .u8 (d.toNat : Int)) := by rw [← hd0]; exact hU2.out 0 hpos
              by_cases h1 : 1 < us.length
              · by_cases hz : d = 48
                · obtain ⟨us', hus⟩ : ∃ us', us = 48 :: us' := by
                    cases us with
                    | nil => simp at hpos
                    | cons x r => exact ⟨r, by rw [← hz, ← hd0]; rfl⟩
                  rw [hz] at hcell
                  replace hcell : wr.cell? ⟨g, off, none⟩ = some (.int .u8 48) := hcell
                  have hul : us'.length = us.length - 1 := by rw [hus]; simp
                  have hU1' : Hid (DgL us') := Lib.hid (by have := hU1.out.all; rw [hus] at this; simp only [List.all_cons, Bool.and_eq_true] at this; exact ⟨this.2, by omega, by omega⟩)
                  have hU' : Hid (num us' = num zs) := Lib.hid (by rw [← hU.out, hus, num_cons]; simp)
                  have hU2' : Hid (RowAt wr g (off + 1) us') := Lib.hid fun j hj => by have := hU2.out (j + 1) (by omega); simp only [hus] at this; simpa [Nat.add_assoc, Nat.add_comm 1] using this
                  clear hd0 hU hU1 hU2 hz hus
                  go_wp2_with fail
                  go_round
                  case rel => exact ⟨off + 1, c - 1, us', by rw [hul], by omega, hU1', hU', hU2'⟩
                  case measure => simp [lenOf]; omega
                · have hb : ((d.toNat : Int) == 48) = false := by rw [beq_eq_false_iff_ne]; intro e; exact hz (UInt8.toNat_inj.1 (show d.toNat = 48 by omega))
                  have h1 : Hid (us.length = 1 ∨ ∃ h : 0 < us.length, us[0] ≠ 48) := Lib.hid (.inr ⟨hpos, by rw [hd0]; exact hz⟩)
                  clear hd0 hz
                  have h2 : Hid (a = 0 ∨ num us % 2 = 1) := Lib.hid (odd_of hodd.out (by rw [hU.out]; exact hN2.out))
                  have h5 : Hid (b = 0 ∨ num us % 5 ≠ 0) := Lib.hid (by rw [hU.out]; exact hfive.out)
                  have HT : Hid (repr (Rat.divInt (num us : Int) ((2 ^ a * 5 ^ b : Nat) : Int)) = R) := Lib.hid (by rw [← HR.out, taken (N := num L) (D := num us) hai hbj (by rw [Nat.mul_right_comm, hU.out, hN2.out, hN.out])])
                  by_cases hten : 10 < us.length
                  · first
                      | (exfalso; omega)
                      | (have fin : Hid (R = (0, 0, 2)) := Lib.hid (by rw [← HT.out]; exact low_big h2.out h5.out (by left; exact big_num hU1.out.all h1.out hten))
                         have z0 := hB2.cellv 0 _ rfl
                         have z1 := hB2.cellv 1 _ rfl
                         have f0 := hB2.free 0
                         have f1 := hB2.free 1
                         go_wp2_with fail
                         exact bodyPost_ret (v := .tuple #[.agg #[.int .i64 0, .int .i64 0], .int .i64 2]) (by simp [results, Tryd.results33, go_sem, z0, z1]) rfl (ret_of fin.out (by first | exact hB3 | exact below_setAt hB3 _ (Nat.le_refl _) _ _)))
                  · have hall := Lib.hid hU1.out.all
                    clear hN hN2 hU hodd hfive HR hU1 h1
                    go_wp2_with fail
                    go_loop [9, 11] (fun nv iv => ∃ k n : Nat, k ≤ us.length ∧ iv = .int .i64 (k : Int) ∧ nv = .int .i64 (n : Int) ∧ n ≤ 10000000000 ∧ Hid (num (us.take k) = n)) (fun _ iv => us.length - (intOf iv).toNat)
                    case atStart => exact ⟨0, 0, Nat.zero_le _, rfl, rfl, by omega, Lib.hid (by simp [Len.num_eq, numF_nil])⟩
                    case round =>
                      obtain ⟨k, n, hk, rfl, rfl, hn, en⟩ := hrel
                      by_cases hlt : k < us.length
                      · obtain ⟨d, ed⟩ : ∃ d, us[k] = d := ⟨_, rfl⟩
                        have hcell : wr.cell? ⟨g, off + k, none⟩ = some (.int .u8 (d.toNat : Int)) := by rw [← ed]; exact hU2.out _ hlt
                        have h48 := digit_le (List.all_eq_true.1 hall.out d (by rw [← ed]; exact List.getElem_mem _))
                        have nxt : Hid (num (us.take (k + 1)) = 10 * n + (d.toNat - 48)) := Lib.hid (by rw [List.take_succ_eq_append_getElem hlt, num_snoc, en.out, ed, Nat.mul_comm])
                        have hlim : 10 * n + (d.toNat - 48) ≤ 10000000000 := by rw [← nxt.out]; exact small_num hall.out (by omega)
                        clear ed
                        go_wp2_with fail
                        go_round
                        case rel => exact ⟨k + 1, 10 * n + (d.toNat - 48), by omega, by go_num, by go_num, hlim, nxt⟩
                        case measure => simp [intOf]; omega
                      · obtain rfl : k = us.length := by omega
                        rw [List.take_length] at en
                        rw [en.out] at h2 h5 HT
                        go_wp2_with fail
                        go_loop [10, 12] (fun dv iv => ∃ k m : Nat, k ≤ a ∧ iv = .int .i64 (k : Int) ∧ dv = .int .i64 (m : Int) ∧ m ≤ 2147483647 ∧ Hid (m = 2 ^ k)) (fun _ iv => a - (intOf iv).toNat)
                        case atStart => exact ⟨0, 1, Nat.zero_le _, rfl, rfl, by omega, Lib.hid rfl⟩
                        case round =>
                          obtain ⟨k, m, hk, rfl, rfl, hm, em⟩ := hrel
                          by_cases hlt : k < a
                          · by_cases hbig : 2147483647 < m * 2
                            · have fin : Hid (R = (0, 0, 2)) := Lib.hid (by rw [← HT.out]; exact low_big h2.out h5.out (by right; have h := Nat.pow_le_pow_right (n := 2) (by decide) (show k + 1 ≤ a by omega); have h' := Nat.mul_le_mul h (Nat.one_le_pow b 5 (by decide)); rw [Nat.pow_succ, ← em.out, Nat.mul_one] at h'; omega))
                              have z0 := hB2.cellv 0 _ rfl
                              have z1 := hB2.cellv 1 _ rfl
                              have f0 := hB2.free 0
                              have f1 := hB2.free 1
                              go_wp2_with fail
                              exact bodyPost_ret (v := .tuple #[.agg #[.int .i64 0, .int .i64 0], .int .i64 2]) (by simp [results, Tryd.results33, go_sem, z0, z1]) rfl (ret_of fin.out (by first | exact hB3 | exact below_setAt hB3 _ (Nat.le_refl _) _ _))
                            · have nxt : Hid (m * 2 = 2 ^ (k + 1)) := Lib.hid (by rw [Nat.pow_succ, ← em.out])
                              go_wp2_with fail
                              go_round
                              case rel => exact ⟨k + 1, m * 2, by omega, by go_num, by go_num, by omega, nxt⟩
                              case measure => simp [intOf]; omega
                          · obtain rfl : a = k := by omega
                            have hm5 := hm
                            have e5 := em
                            go_wp2_with fail
                            go_loop [10, 13] (fun dv iv => ∃ k m : Nat, k ≤ b ∧ iv = .int .i64 (k : Int) ∧ dv = .int .i64 (m : Int) ∧ m ≤ 2147483647 ∧ Hid (m = 2 ^ a * 5 ^ k)) (fun _ iv => b - (intOf iv).toNat)
                            case atStart => exact ⟨0, m, Nat.zero_le _, rfl, rfl, hm5, Lib.hid (by rw [Nat.pow_zero, Nat.mul_one]; exact e5.out)⟩
                            case round =>
                              clear e5 hm5 hm em hk
                              obtain ⟨k, m, hk, rfl, rfl, hm, em⟩ := hrel
                              by_cases hlt : k < b
                              · by_cases hbig : 2147483647 < m * 5
                                · have fin : Hid (R = (0, 0, 2)) := Lib.hid (by rw [← HT.out]; exact low_big h2.out h5.out (by right; have h := Nat.pow_le_pow_right (n := 5) (by decide) (show k + 1 ≤ b by omega); have h' := Nat.mul_le_mul_left (2 ^ a) h; rw [Nat.pow_succ, ← Nat.mul_assoc, ← em.out] at h'; omega))
                                  have z0 := hB2.cellv 0 _ rfl
                                  have z1 := hB2.cellv 1 _ rfl
                                  have f0 := hB2.free 0
                                  have f1 := hB2.free 1
                                  go_wp2_with fail
                                  exact bodyPost_ret (v := .tuple #[.agg #[.int .i64 0, .int .i64 0], .int .i64 2]) (by simp [results, Tryd.results33, go_sem, z0, z1]) rfl (ret_of fin.out (by first | exact hB3 | exact below_setAt hB3 _ (Nat.le_refl _) _ _))
                                · have nxt : Hid (m * 5 = 2 ^ a * 5 ^ (k + 1)) := Lib.hid (by rw [Nat.pow_succ, ← Nat.mul_assoc, ← em.out])
                                  go_wp2_with fail
                                  go_round
                                  case rel => exact ⟨k + 1, m * 5, by omega, by go_num, by go_num, by omega, nxt⟩
                                  case measure => simp [intOf]; omega
                              · obtain rfl : b = k := by omega
                                have HM : Hid (makeZ (n : Int) (m : Int) = R) := Lib.hid (by
                                  have hp : 0 < m := by rw [em.out]; exact Nat.mul_pos (Nat.pow_pos (by decide)) (Nat.pow_pos (by decide))
                                  rw [makeZ, if_neg (by omega), em.out]; exact HT.out)
                                clear h2 h5 HT em
                                go_wp2_with fail
                                refine (make_ret HM _ (by omega) (by omega) (by omega) (by omega)).mono ?_
                                rintro e w' ⟨rfl, hb'⟩
                                have hB4 := hB2.go hb'
                                have z0 := hB4.cellv 0 _ rfl
                                have z1 := hB4.cellv 1 _ rfl
                                have f0 := hB4.free 0
                                have f1 := hB4.free 1
                                have hB5 := below_go hB3 hb'
                                clear hb'
                                go_wp2_with fail
                                exact bodyPost_ret (v := .tuple #[.agg #[.int .i64 R.1, .int .i64 R.2.1], .int .i64 R.2.2]) (by simp [results, Tryd.results33, go_sem, z0, z1]) rfl ⟨rfl, by first | exact hB5 | exact below_setAt hB5 _ (Nat.le_refl _) _ _⟩
              · have hl1 : us.length = 1 := by omega
                have h1 : Hid (us.length = 1 ∨ ∃ h : 0 < us.length, us[0] ≠ 48) := Lib.hid (.inl hl1)
                clear hd0
                have h2 : Hid (a = 0 ∨ num us % 2 = 1) := Lib.hid (odd_of hodd.out (by rw [hU.out]; exact hN2.out))
                have h5 : Hid (b = 0 ∨ num us % 5 ≠ 0) := Lib.hid (by rw [hU.out]; exact hfive.out)
                have HT : Hid (repr (Rat.divInt (num us : Int) ((2 ^ a * 5 ^ b : Nat) : Int)) = R) := Lib.hid (by rw [← HR.out, taken (N := num L) (D := num us) hai hbj (by rw [Nat.mul_right_comm, hU.out, hN2.out, hN.out])])
                by_cases hten : 10 < us.length
                · first
                    | (exfalso; omega)
                    | (have fin : Hid (R = (0, 0, 2)) := Lib.hid (by rw [← HT.out]; exact low_big h2.out h5.out (by left; exact big_num hU1.out.all h1.out hten))
                       have z0 := hB2.cellv 0 _ rfl
                       have z1 := hB2.cellv 1 _ rfl
                       have f0 := hB2.free 0
                       have f1 := hB2.free 1
                       go_wp2_with fail
                       exact bodyPost_ret (v := .tuple #[.agg #[.int .i64 0, .int .i64 0], .int .i64 2]) (by simp [results, Tryd.results33, go_sem, z0, z1]) rfl (ret_of fin.out (by first | exact hB3 | exact below_setAt hB3 _ (Nat.le_refl _) _ _)))
                · have hall := Lib.hid hU1.out.all
                  clear hN hN2 hU hodd hfive HR hU1 h1
                  go_wp2_with fail
                  go_loop [9, 11] (fun nv iv => ∃ k n : Nat, k ≤ us.length ∧ iv = .int .i64 (k : Int) ∧ nv = .int .i64 (n : Int) ∧ n ≤ 10000000000 ∧ Hid (num (us.take k) = n)) (fun _ iv => us.length - (intOf iv).toNat)
                  case atStart => exact ⟨0, 0, Nat.zero_le _, rfl, rfl, by omega, Lib.hid (by simp [Len.num_eq, numF_nil])⟩
                  case round =>
                    obtain ⟨k, n, hk, rfl, rfl, hn, en⟩ := hrel
                    by_cases hlt : k < us.length
                    · obtain ⟨d, ed⟩ : ∃ d, us[k] = d := ⟨_, rfl⟩
                      have hcell : wr.cell? ⟨g, off + k, none⟩ = some (.int .u8 (d.toNat : Int)) := by rw [← ed]; exact hU2.out _ hlt
                      have h48 := digit_le (List.all_eq_true.1 hall.out d (by rw [← ed]; exact List.getElem_mem _))
                      have nxt : Hid (num (us.take (k + 1)) = 10 * n + (d.toNat - 48)) := Lib.hid (by rw [List.take_succ_eq_append_getElem hlt, num_snoc, en.out, ed, Nat.mul_comm])
                      have hlim : 10 * n + (d.toNat - 48) ≤ 10000000000 := by rw [← nxt.out]; exact small_num hall.out (by omega)
                      clear ed
                      go_wp2_with fail
                      go_round
                      case rel => exact ⟨k + 1, 10 * n + (d.toNat - 48), by omega, by go_num, by go_num, hlim, nxt⟩
                      case measure => simp [intOf]; omega
                    · obtain rfl : k = us.length := by omega
                      rw [List.take_length] at en
                      rw [en.out] at h2 h5 HT
                      go_wp2_with fail
                      go_loop [10, 12] (fun dv iv => ∃ k m : Nat, k ≤ a ∧ iv = .int .i64 (k : Int) ∧ dv = .int .i64 (m : Int) ∧ m ≤ 2147483647 ∧ Hid (m = 2 ^ k)) (fun _ iv => a - (intOf iv).toNat)
                      case atStart => exact ⟨0, 1, Nat.zero_le _, rfl, rfl, by omega, Lib.hid rfl⟩
                      case round =>
                        obtain ⟨k, m, hk, rfl, rfl, hm, em⟩ := hrel
                        by_cases hlt : k < a
                        · by_cases hbig : 2147483647 < m * 2
                          · have fin : Hid (R = (0, 0, 2)) := Lib.hid (by rw [← HT.out]; exact low_big h2.out h5.out (by right; have h := Nat.pow_le_pow_right (n := 2) (by decide) (show k + 1 ≤ a by omega); have h' := Nat.mul_le_mul h (Nat.one_le_pow b 5 (by decide)); rw [Nat.pow_succ, ← em.out, Nat.mul_one] at h'; omega))
                            have z0 := hB2.cellv 0 _ rfl
                            have z1 := hB2.cellv 1 _ rfl
                            have f0 := hB2.free 0
                            have f1 := hB2.free 1
                            go_wp2_with fail
                            exact bodyPost_ret (v := .tuple #[.agg #[.int .i64 0, .int .i64 0], .int .i64 2]) (by simp [results, Tryd.results33, go_sem, z0, z1]) rfl (ret_of fin.out (by first | exact hB3 | exact below_setAt hB3 _ (Nat.le_refl _) _ _))
                          · have nxt : Hid (m * 2 = 2 ^ (k + 1)) := Lib.hid (by rw [Nat.pow_succ, ← em.out])
                            go_wp2_with fail
                            go_round
                            case rel => exact ⟨k + 1, m * 2, by omega, by go_num, by go_num, by omega, nxt⟩
                            case measure => simp [intOf]; omega
                        · obtain rfl : a = k := by omega
                          have hm5 := hm
                          have e5 := em
                          go_wp2_with fail
                          go_loop [10, 13] (fun dv iv => ∃ k m : Nat, k ≤ b ∧ iv = .int .i64 (k : Int) ∧ dv = .int .i64 (m : Int) ∧ m ≤ 2147483647 ∧ Hid (m = 2 ^ a * 5 ^ k)) (fun _ iv => b - (intOf iv).toNat)
                          case atStart => exact ⟨0, m, Nat.zero_le _, rfl, rfl, hm5, Lib.hid (by rw [Nat.pow_zero, Nat.mul_one]; exact e5.out)⟩
                          case round =>
                            clear e5 hm5 hm em hk
                            obtain ⟨k, m, hk, rfl, rfl, hm, em⟩ := hrel
                            by_cases hlt : k < b
                            · by_cases hbig : 2147483647 < m * 5
                              · have fin : Hid (R = (0, 0, 2)) := Lib.hid (by rw [← HT.out]; exact low_big h2.out h5.out (by right; have h := Nat.pow_le_pow_right (n := 5) (by decide) (show k + 1 ≤ b by omega); have h' := Nat.mul_le_mul_left (2 ^ a) h; rw [Nat.pow_succ, ← Nat.mul_assoc, ← em.out] at h'; omega))
                                have z0 := hB2.cellv 0 _ rfl
                                have z1 := hB2.cellv 1 _ rfl
                                have f0 := hB2.free 0
                                have f1 := hB2.free 1
                                go_wp2_with fail
                                exact bodyPost_ret (v := .tuple #[.agg #[.int .i64 0, .int .i64 0], .int .i64 2]) (by simp [results, Tryd.results33, go_sem, z0, z1]) rfl (ret_of fin.out (by first | exact hB3 | exact below_setAt hB3 _ (Nat.le_refl _) _ _))
                              · have nxt : Hid (m * 5 = 2 ^ a * 5 ^ (k + 1)) := Lib.hid (by rw [Nat.pow_succ, ← Nat.mul_assoc, ← em.out])
                                go_wp2_with fail
                                go_round
                                case rel => exact ⟨k + 1, m * 5, by omega, by go_num, by go_num, by omega, nxt⟩
                                case measure => simp [intOf]; omega
                            · obtain rfl : b = k := by omega
                              have HM : Hid (makeZ (n : Int) (m : Int) = R) := Lib.hid (by
                                have hp : 0 < m := by rw [em.out]; exact Nat.mul_pos (Nat.pow_pos (by decide)) (Nat.pow_pos (by decide))
                                rw [makeZ, if_neg (by omega), em.out]; exact HT.out)
                              clear h2 h5 HT em
                              go_wp2_with fail
                              refine (make_ret HM _ (by omega) (by omega) (by omega) (by omega)).mono ?_
                              rintro e w' ⟨rfl, hb'⟩
                              have hB4 := hB2.go hb'
                              have z0 := hB4.cellv 0 _ rfl
                              have z1 := hB4.cellv 1 _ rfl
                              have f0 := hB4.free 0
                              have f1 := hB4.free 1
                              have hB5 := below_go hB3 hb'
                              clear hb'
                              go_wp2_with fail
                              exact bodyPost_ret (v := .tuple #[.agg #[.int .i64 R.1, .int .i64 R.2.1], .int .i64 R.2.2]) (by simp [results, Tryd.results33, go_sem, z0, z1]) rfl ⟨rfl, by first | exact hB5 | exact below_setAt hB5 _ (Nat.le_refl _) _ _⟩
    · have hodd : Hid (a = 0 ∨ num ys % 2 = 1) := Lib.hid (by omega)
      clear hmod
      go_wp2_with fail
      first | clear hbe ha | clear ha
      go_loopw [7, 8] (fun tw v wr => ∃ (b j g off c : Nat) (zs : List UInt8), tw = .int .i64 (b : Int) ∧ v = .slice (some ⟨g, off, none⟩) zs.length c ∧ zs.length ≤ c ∧ b + j = t ∧ Hid (DgL zs) ∧ Hid (num zs * 5 ^ j = num ys) ∧ Hid (RowAt wr g off zs) ∧ g < wr.heap.size ∧ Blk wr w.heap.size #[.int .i64 0, .int .i64 0] 28 ∧ Below w.heap.size w wr) (fun tw _ _ => (intOf tw).toNat)
      case atStart => exact ⟨t, 0, g, off, c, ys, rfl, rfl, hc, by omega, hD, Lib.hid (by simp), hrw, hg, hB0, hB1⟩
      case round =>
        clear hD hrw hg hB0 hB1 hpos hle hcell h48 hc
        obtain ⟨b, j, g, off, c, zs, rfl, rfl, hc, hbj, hD, hN2, hrw, hg, hB2, hB3⟩ := hrel
        have hpos := hD.out.pos
        have hle := hD.out.le
        obtain ⟨d, hd0⟩ : ∃ d, zs[zs.length - 1] = d := ⟨_, rfl⟩
        have hcell : wr.cell? ⟨g, off + (zs.length - 1), none⟩ = some (.int .u8 (d.toNat : Int)) := by rw [← hd0]; exact hrw.out _ (by omega)
        have h48 := digit_le (List.all_eq_true.1 hD.out.all d (by rw [← hd0]; exact List.getElem_mem _))
        have hmod : Hid (num zs % 5 = (d.toNat - 48) % 5) := Lib.hid (last_div (.inr rfl) hpos (by rw [hd0]))
        clear hd0
        by_cases hb : 0 < b
        · by_cases hev : (d.toNat - 48) % 5 = 0
          · have hz : Hid (num zs % 5 = 0) := Lib.hid (by rw [hmod.out, hev])
            clear hmod
            go_wp2_with (go_at_call 48; refine (part_any 5 (.inr rfl) 5 rfl g off _ c zs _ rfl hg hD hz hrw).mono ?_; rintro e w' ⟨g', c', q, rfl, hc', hD', hN', hrw', hg', hbel⟩)
            go_roundw
            case rel => exact ⟨b - 1, j + 1, g', 0, c', q, by go_num, rfl, hc', by omega, hD', Lib.hid (by rw [Nat.pow_succ, Nat.mul_comm (5 ^ j), ← Nat.mul_assoc, hN'.out]; exact hN2.out), hrw', hg', hB2.go hbel, below_go hB3 hbel⟩
            case measure => simp [intOf]; omega
          · have hfive : Hid (b = 0 ∨ num zs % 5 ≠ 0) := Lib.hid (by have := hmod.out; omega)
            have hbe : (((d.toNat : Int) - 48) % 5 == 0) = false := by rw [beq_eq_false_iff_ne]; omega
            clear hmod hev
            go_wp2_with fail
            first | clear hbe hb | clear hb
            go_loop [8] (fun v => ∃ (off c : Nat) (us : List UInt8), v = .slice (some ⟨g, off, none⟩) us.length c ∧ us.length ≤ c ∧ Hid (DgL us) ∧ Hid (num us = num zs) ∧ Hid (RowAt wr g off us)) (fun v => lenOf v)
            case atStart => exact ⟨off, c, zs, rfl, hc, hD, Lib.hid rfl, hrw⟩
            case round =>
              clear hrw hc hD
              obtain ⟨off, c, us, rfl, hc, hU1, hU, hU2⟩ := hrel
              have hpos := hU1.out.pos
              have hle := hU1.out.le
              obtain ⟨d, hd0⟩ : ∃ d, us[0] = d := ⟨_, rfl⟩
              have hcell : wr.cell? ⟨g, off, none⟩ = some (.int .u8 (d.toNat : Int)) := by rw [← hd0]; exact hU2.out 0 hpos
              by_cases h1 : 1 < us.length
              · by_cases hz : d = 48
                · obtain ⟨us', hus⟩ : ∃ us', us = 48 :: us' := by
                    cases us with
                    | nil => simp at hpos
                    | cons x r => exact ⟨r, by rw [← hz, ← hd0]; rfl⟩
                  rw [hz] at hcell
                  replace hcell : wr.cell? ⟨g, off, none⟩ = some (.int .u8 48) := hcell
                  have hul : us'.length = us.length - 1 := by rw [hus]; simp
                  have hU1' : Hid (DgL us') := Lib.hid (by have := hU1.out.all; rw [hus] at this; simp only [List.all_cons, Bool.and_eq_true] at this; exact ⟨this.2, by omega, by omega⟩)
                  have hU' : Hid (num us' = num zs) := Lib.hid (by rw [← hU.out, hus, num_cons]; simp)
                  have hU2' : Hid (RowAt wr g (off + 1) us') := Lib.hid fun j hj => by have := hU2.out (j + 1) (by omega); simp only [hus] at this; simpa [Nat.add_assoc, Nat.add_comm 1] using this
                  clear hd0 hU hU1 hU2 hz hus
                  go_wp2_with fail
                  go_round
                  case rel => exact ⟨off + 1, c - 1, us', by rw [hul], by omega, hU1', hU', hU2'⟩
                  case measure => simp [lenOf]; omega
                · have hb : ((d.toNat : Int) == 48) = false := by rw [beq_eq_false_iff_ne]; intro e; exact hz (UInt8.toNat_inj.1 (show d.toNat = 48 by omega))
                  have h1 : Hid (us.length = 1 ∨ ∃ h : 0 < us.length, us[0] ≠ 48) := Lib.hid (.inr ⟨hpos, by rw [hd0]; exact hz⟩)
                  clear hd0 hz
                  have h2 : Hid (a = 0 ∨ num us % 2 = 1) := Lib.hid (odd_of hodd.out (by rw [hU.out]; exact hN2.out))
                  have h5 : Hid (b = 0 ∨ num us % 5 ≠ 0) := Lib.hid (by rw [hU.out]; exact hfive.out)
                  have HT : Hid (repr (Rat.divInt (num us : Int) ((2 ^ a * 5 ^ b : Nat) : Int)) = R) := Lib.hid (by rw [← HR.out, taken (N := num L) (D := num us) hai hbj (by rw [Nat.mul_right_comm, hU.out, hN2.out, hN.out])])
                  by_cases hten : 10 < us.length
                  · first
                      | (exfalso; omega)
                      | (have fin : Hid (R = (0, 0, 2)) := Lib.hid (by rw [← HT.out]; exact low_big h2.out h5.out (by left; exact big_num hU1.out.all h1.out hten))
                         have z0 := hB2.cellv 0 _ rfl
                         have z1 := hB2.cellv 1 _ rfl
                         have f0 := hB2.free 0
                         have f1 := hB2.free 1
                         go_wp2_with fail
                         exact bodyPost_ret (v := .tuple #[.agg #[.int .i64 0, .int .i64 0], .int .i64 2]) (by simp [results, Tryd.results33, go_sem, z0, z1]) rfl (ret_of fin.out (by first | exact hB3 | exact below_setAt hB3 _ (Nat.le_refl _) _ _)))
                  · have hall := Lib.hid hU1.out.all
                    clear hN hN2 hU hodd hfive HR hU1 h1
                    go_wp2_with fail
                    go_loop [9, 11] (fun nv iv => ∃ k n : Nat, k ≤ us.length ∧ iv = .int .i64 (k : Int) ∧ nv = .int .i64 (n : Int) ∧ n ≤ 10000000000 ∧ Hid (num (us.take k) = n)) (fun _ iv => us.length - (intOf iv).toNat)
                    case atStart => exact ⟨0, 0, Nat.zero_le _, rfl, rfl, by omega, Lib.hid (by simp [Len.num_eq, numF_nil])⟩
                    case round =>
                      obtain ⟨k, n, hk, rfl, rfl, hn, en⟩ := hrel
                      by_cases hlt : k < us.length
                      · obtain ⟨d, ed⟩ : ∃ d, us[k] = d := ⟨_, rfl⟩
                        have hcell : wr.cell? ⟨g, off + k, none⟩ = some (.int .u8 (d.toNat : Int)) := by rw [← ed]; exact hU2.out _ hlt
                        have h48 := digit_le (List.all_eq_true.1 hall.out d (by rw [← ed]; exact List.getElem_mem _))
                        have nxt : Hid (num (us.take (k + 1)) = 10 * n + (d.toNat - 48)) := Lib.hid (by rw [List.take_succ_eq_append_getElem hlt, num_snoc, en.out, ed, Nat.mul_comm])
                        have hlim : 10 * n + (d.toNat - 48) ≤ 10000000000 := by rw [← nxt.out]; exact small_num hall.out (by omega)
                        clear ed
                        go_wp2_with fail
                        go_round
                        case rel => exact ⟨k + 1, 10 * n + (d.toNat - 48), by omega, by go_num, by go_num, hlim, nxt⟩
                        case measure => simp [intOf]; omega
                      · obtain rfl : k = us.length := by omega
                        rw [List.take_length] at en
                        rw [en.out] at h2 h5 HT
                        go_wp2_with fail
                        go_loop [10, 12] (fun dv iv => ∃ k m : Nat, k ≤ a ∧ iv = .int .i64 (k : Int) ∧ dv = .int .i64 (m : Int) ∧ m ≤ 2147483647 ∧ Hid (m = 2 ^ k)) (fun _ iv => a - (intOf iv).toNat)
                        case atStart => exact ⟨0, 1, Nat.zero_le _, rfl, rfl, by omega, Lib.hid rfl⟩
                        case round =>
                          obtain ⟨k, m, hk, rfl, rfl, hm, em⟩ := hrel
                          by_cases hlt : k < a
                          · by_cases hbig : 2147483647 < m * 2
                            · have fin : Hid (R = (0, 0, 2)) := Lib.hid (by rw [← HT.out]; exact low_big h2.out h5.out (by right; have h := Nat.pow_le_pow_right (n := 2) (by decide) (show k + 1 ≤ a by omega); have h' := Nat.mul_le_mul h (Nat.one_le_pow b 5 (by decide)); rw [Nat.pow_succ, ← em.out, Nat.mul_one] at h'; omega))
                              have z0 := hB2.cellv 0 _ rfl
                              have z1 := hB2.cellv 1 _ rfl
                              have f0 := hB2.free 0
                              have f1 := hB2.free 1
                              go_wp2_with fail
                              exact bodyPost_ret (v := .tuple #[.agg #[.int .i64 0, .int .i64 0], .int .i64 2]) (by simp [results, Tryd.results33, go_sem, z0, z1]) rfl (ret_of fin.out (by first | exact hB3 | exact below_setAt hB3 _ (Nat.le_refl _) _ _))
                            · have nxt : Hid (m * 2 = 2 ^ (k + 1)) := Lib.hid (by rw [Nat.pow_succ, ← em.out])
                              go_wp2_with fail
                              go_round
                              case rel => exact ⟨k + 1, m * 2, by omega, by go_num, by go_num, by omega, nxt⟩
                              case measure => simp [intOf]; omega
                          · obtain rfl : a = k := by omega
                            have hm5 := hm
                            have e5 := em
                            go_wp2_with fail
                            go_loop [10, 13] (fun dv iv => ∃ k m : Nat, k ≤ b ∧ iv = .int .i64 (k : Int) ∧ dv = .int .i64 (m : Int) ∧ m ≤ 2147483647 ∧ Hid (m = 2 ^ a * 5 ^ k)) (fun _ iv => b - (intOf iv).toNat)
                            case atStart => exact ⟨0, m, Nat.zero_le _, rfl, rfl, hm5, Lib.hid (by rw [Nat.pow_zero, Nat.mul_one]; exact e5.out)⟩
                            case round =>
                              clear e5 hm5 hm em hk
                              obtain ⟨k, m, hk, rfl, rfl, hm, em⟩ := hrel
                              by_cases hlt : k < b
                              · by_cases hbig : 2147483647 < m * 5
                                · have fin : Hid (R = (0, 0, 2)) := Lib.hid (by rw [← HT.out]; exact low_big h2.out h5.out (by right; have h := Nat.pow_le_pow_right (n := 5) (by decide) (show k + 1 ≤ b by omega); have h' := Nat.mul_le_mul_left (2 ^ a) h; rw [Nat.pow_succ, ← Nat.mul_assoc, ← em.out] at h'; omega))
                                  have z0 := hB2.cellv 0 _ rfl
                                  have z1 := hB2.cellv 1 _ rfl
                                  have f0 := hB2.free 0
                                  have f1 := hB2.free 1
                                  go_wp2_with fail
                                  exact bodyPost_ret (v := .tuple #[.agg #[.int .i64 0, .int .i64 0], .int .i64 2]) (by simp [results, Tryd.results33, go_sem, z0, z1]) rfl (ret_of fin.out (by first | exact hB3 | exact below_setAt hB3 _ (Nat.le_refl _) _ _))
                                · have nxt : Hid (m * 5 = 2 ^ a * 5 ^ (k + 1)) := Lib.hid (by rw [Nat.pow_succ, ← Nat.mul_assoc, ← em.out])
                                  go_wp2_with fail
                                  go_round
                                  case rel => exact ⟨k + 1, m * 5, by omega, by go_num, by go_num, by omega, nxt⟩
                                  case measure => simp [intOf]; omega
                              · obtain rfl : b = k := by omega
                                have HM : Hid (makeZ (n : Int) (m : Int) = R) := Lib.hid (by
                                  have hp : 0 < m := by rw [em.out]; exact Nat.mul_pos (Nat.pow_pos (by decide)) (Nat.pow_pos (by decide))
                                  rw [makeZ, if_neg (by omega), em.out]; exact HT.out)
                                clear h2 h5 HT em
                                go_wp2_with fail
                                refine (make_ret HM _ (by omega) (by omega) (by omega) (by omega)).mono ?_
                                rintro e w' ⟨rfl, hb'⟩
                                have hB4 := hB2.go hb'
                                have z0 := hB4.cellv 0 _ rfl
                                have z1 := hB4.cellv 1 _ rfl
                                have f0 := hB4.free 0
                                have f1 := hB4.free 1
                                have hB5 := below_go hB3 hb'
                                clear hb'
                                go_wp2_with fail
                                exact bodyPost_ret (v := .tuple #[.agg #[.int .i64 R.1, .int .i64 R.2.1], .int .i64 R.2.2]) (by simp [results, Tryd.results33, go_sem, z0, z1]) rfl ⟨rfl, by first | exact hB5 | exact below_setAt hB5 _ (Nat.le_refl _) _ _⟩
              · have hl1 : us.length = 1 := by omega
                have h1 : Hid (us.length = 1 ∨ ∃ h : 0 < us.length, us[0] ≠ 48) := Lib.hid (.inl hl1)
                clear hd0
                have h2 : Hid (a = 0 ∨ num us % 2 = 1) := Lib.hid (odd_of hodd.out (by rw [hU.out]; exact hN2.out))
                have h5 : Hid (b = 0 ∨ num us % 5 ≠ 0) := Lib.hid (by rw [hU.out]; exact hfive.out)
                have HT : Hid (repr (Rat.divInt (num us : Int) ((2 ^ a * 5 ^ b : Nat) : Int)) = R) := Lib.hid (by rw [← HR.out, taken (N := num L) (D := num us) hai hbj (by rw [Nat.mul_right_comm, hU.out, hN2.out, hN.out])])
                by_cases hten : 10 < us.length
                · first
                    | (exfalso; omega)
                    | (have fin : Hid (R = (0, 0, 2)) := Lib.hid (by rw [← HT.out]; exact low_big h2.out h5.out (by left; exact big_num hU1.out.all h1.out hten))
                       have z0 := hB2.cellv 0 _ rfl
                       have z1 := hB2.cellv 1 _ rfl
                       have f0 := hB2.free 0
                       have f1 := hB2.free 1
                       go_wp2_with fail
                       exact bodyPost_ret (v := .tuple #[.agg #[.int .i64 0, .int .i64 0], .int .i64 2]) (by simp [results, Tryd.results33, go_sem, z0, z1]) rfl (ret_of fin.out (by first | exact hB3 | exact below_setAt hB3 _ (Nat.le_refl _) _ _)))
                · have hall := Lib.hid hU1.out.all
                  clear hN hN2 hU hodd hfive HR hU1 h1
                  go_wp2_with fail
                  go_loop [9, 11] (fun nv iv => ∃ k n : Nat, k ≤ us.length ∧ iv = .int .i64 (k : Int) ∧ nv = .int .i64 (n : Int) ∧ n ≤ 10000000000 ∧ Hid (num (us.take k) = n)) (fun _ iv => us.length - (intOf iv).toNat)
                  case atStart => exact ⟨0, 0, Nat.zero_le _, rfl, rfl, by omega, Lib.hid (by simp [Len.num_eq, numF_nil])⟩
                  case round =>
                    obtain ⟨k, n, hk, rfl, rfl, hn, en⟩ := hrel
                    by_cases hlt : k < us.length
                    · obtain ⟨d, ed⟩ : ∃ d, us[k] = d := ⟨_, rfl⟩
                      have hcell : wr.cell? ⟨g, off + k, none⟩ = some (.int .u8 (d.toNat : Int)) := by rw [← ed]; exact hU2.out _ hlt
                      have h48 := digit_le (List.all_eq_true.1 hall.out d (by rw [← ed]; exact List.getElem_mem _))
                      have nxt : Hid (num (us.take (k + 1)) = 10 * n + (d.toNat - 48)) := Lib.hid (by rw [List.take_succ_eq_append_getElem hlt, num_snoc, en.out, ed, Nat.mul_comm])
                      have hlim : 10 * n + (d.toNat - 48) ≤ 10000000000 := by rw [← nxt.out]; exact small_num hall.out (by omega)
                      clear ed
                      go_wp2_with fail
                      go_round
                      case rel => exact ⟨k + 1, 10 * n + (d.toNat - 48), by omega, by go_num, by go_num, hlim, nxt⟩
                      case measure => simp [intOf]; omega
                    · obtain rfl : k = us.length := by omega
                      rw [List.take_length] at en
                      rw [en.out] at h2 h5 HT
                      go_wp2_with fail
                      go_loop [10, 12] (fun dv iv => ∃ k m : Nat, k ≤ a ∧ iv = .int .i64 (k : Int) ∧ dv = .int .i64 (m : Int) ∧ m ≤ 2147483647 ∧ Hid (m = 2 ^ k)) (fun _ iv => a - (intOf iv).toNat)
                      case atStart => exact ⟨0, 1, Nat.zero_le _, rfl, rfl, by omega, Lib.hid rfl⟩
                      case round =>
                        obtain ⟨k, m, hk, rfl, rfl, hm, em⟩ := hrel
                        by_cases hlt : k < a
                        · by_cases hbig : 2147483647 < m * 2
                          · have fin : Hid (R = (0, 0, 2)) := Lib.hid (by rw [← HT.out]; exact low_big h2.out h5.out (by right; have h := Nat.pow_le_pow_right (n := 2) (by decide) (show k + 1 ≤ a by omega); have h' := Nat.mul_le_mul h (Nat.one_le_pow b 5 (by decide)); rw [Nat.pow_succ, ← em.out, Nat.mul_one] at h'; omega))
                            have z0 := hB2.cellv 0 _ rfl
                            have z1 := hB2.cellv 1 _ rfl
                            have f0 := hB2.free 0
                            have f1 := hB2.free 1
                            go_wp2_with fail
                            exact bodyPost_ret (v := .tuple #[.agg #[.int .i64 0, .int .i64 0], .int .i64 2]) (by simp [results, Tryd.results33, go_sem, z0, z1]) rfl (ret_of fin.out (by first | exact hB3 | exact below_setAt hB3 _ (Nat.le_refl _) _ _))
                          · have nxt : Hid (m * 2 = 2 ^ (k + 1)) := Lib.hid (by rw [Nat.pow_succ, ← em.out])
                            go_wp2_with fail
                            go_round
                            case rel => exact ⟨k + 1, m * 2, by omega, by go_num, by go_num, by omega, nxt⟩
                            case measure => simp [intOf]; omega
                        · obtain rfl : a = k := by omega
                          have hm5 := hm
                          have e5 := em
                          go_wp2_with fail
                          go_loop [10, 13] (fun dv iv => ∃ k m : Nat, k ≤ b ∧ iv = .int .i64 (k : Int) ∧ dv = .int .i64 (m : Int) ∧ m ≤ 2147483647 ∧ Hid (m = 2 ^ a * 5 ^ k)) (fun _ iv => b - (intOf iv).toNat)
                          case atStart => exact ⟨0, m, Nat.zero_le _, rfl, rfl, hm5, Lib.hid (by rw [Nat.pow_zero, Nat.mul_one]; exact e5.out)⟩
                          case round =>
                            clear e5 hm5 hm em hk
                            obtain ⟨k, m, hk, rfl, rfl, hm, em⟩ := hrel
                            by_cases hlt : k < b
                            · by_cases hbig : 2147483647 < m * 5
                              · have fin : Hid (R = (0, 0, 2)) := Lib.hid (by rw [← HT.out]; exact low_big h2.out h5.out (by right; have h := Nat.pow_le_pow_right (n := 5) (by decide) (show k + 1 ≤ b by omega); have h' := Nat.mul_le_mul_left (2 ^ a) h; rw [Nat.pow_succ, ← Nat.mul_assoc, ← em.out] at h'; omega))
                                have z0 := hB2.cellv 0 _ rfl
                                have z1 := hB2.cellv 1 _ rfl
                                have f0 := hB2.free 0
                                have f1 := hB2.free 1
                                go_wp2_with fail
                                exact bodyPost_ret (v := .tuple #[.agg #[.int .i64 0, .int .i64 0], .int .i64 2]) (by simp [results, Tryd.results33, go_sem, z0, z1]) rfl (ret_of fin.out (by first | exact hB3 | exact below_setAt hB3 _ (Nat.le_refl _) _ _))
                              · have nxt : Hid (m * 5 = 2 ^ a * 5 ^ (k + 1)) := Lib.hid (by rw [Nat.pow_succ, ← Nat.mul_assoc, ← em.out])
                                go_wp2_with fail
                                go_round
                                case rel => exact ⟨k + 1, m * 5, by omega, by go_num, by go_num, by omega, nxt⟩
                                case measure => simp [intOf]; omega
                            · obtain rfl : b = k := by omega
                              have HM : Hid (makeZ (n : Int) (m : Int) = R) := Lib.hid (by
                                have hp : 0 < m := by rw [em.out]; exact Nat.mul_pos (Nat.pow_pos (by decide)) (Nat.pow_pos (by decide))
                                rw [makeZ, if_neg (by omega), em.out]; exact HT.out)
                              clear h2 h5 HT em
                              go_wp2_with fail
                              refine (make_ret HM _ (by omega) (by omega) (by omega) (by omega)).mono ?_
                              rintro e w' ⟨rfl, hb'⟩
                              have hB4 := hB2.go hb'
                              have z0 := hB4.cellv 0 _ rfl
                              have z1 := hB4.cellv 1 _ rfl
                              have f0 := hB4.free 0
                              have f1 := hB4.free 1
                              have hB5 := below_go hB3 hb'
                              clear hb'
                              go_wp2_with fail
                              exact bodyPost_ret (v := .tuple #[.agg #[.int .i64 R.1, .int .i64 R.2.1], .int .i64 R.2.2]) (by simp [results, Tryd.results33, go_sem, z0, z1]) rfl ⟨rfl, by first | exact hB5 | exact below_setAt hB5 _ (Nat.le_refl _) _ _⟩
        · have hfive : Hid (b = 0 ∨ num zs % 5 ≠ 0) := Lib.hid (by omega)
          clear hmod
          go_wp2_with fail
          first | clear hbe hb | clear hb
          go_loop [8] (fun v => ∃ (off c : Nat) (us : List UInt8), v = .slice (some ⟨g, off, none⟩) us.length c ∧ us.length ≤ c ∧ Hid (DgL us) ∧ Hid (num us = num zs) ∧ Hid (RowAt wr g off us)) (fun v => lenOf v)
          case atStart => exact ⟨off, c, zs, rfl, hc, hD, Lib.hid rfl, hrw⟩
          case round =>
            clear hrw hc hD
            obtain ⟨off, c, us, rfl, hc, hU1, hU, hU2⟩ := hrel
            have hpos := hU1.out.pos
            have hle := hU1.out.le
            obtain ⟨d, hd0⟩ : ∃ d, us[0] = d := ⟨_, rfl⟩
            have hcell : wr.cell? ⟨g, off, none⟩ = some (.int .u8 (d.toNat : Int)) := by rw [← hd0]; exact hU2.out 0 hpos
            by_cases h1 : 1 < us.length
            · by_cases hz : d = 48
              · obtain ⟨us', hus⟩ : ∃ us', us = 48 :: us' := by
                  cases us with
                  | nil => simp at hpos
                  | cons x r => exact ⟨r, by rw [← hz, ← hd0]; rfl⟩
                rw [hz] at hcell
                replace hcell : wr.cell? ⟨g, off, none⟩ = some (.int .u8 48) := hcell
                have hul : us'.length = us.length - 1 := by rw [hus]; simp
                have hU1' : Hid (DgL us') := Lib.hid (by have := hU1.out.all; rw [hus] at this; simp only [List.all_cons, Bool.and_eq_true] at this; exact ⟨this.2, by omega, by omega⟩)
                have hU' : Hid (num us' = num zs) := Lib.hid (by rw [← hU.out, hus, num_cons]; simp)
                have hU2' : Hid (RowAt wr g (off + 1) us') := Lib.hid fun j hj => by have := hU2.out (j + 1) (by omega); simp only [hus] at this; simpa [Nat.add_assoc, Nat.add_comm 1] using this
                clear hd0 hU hU1 hU2 hz hus
                go_wp2_with fail
                go_round
                case rel => exact ⟨off + 1, c - 1, us', by rw [hul], by omega, hU1', hU', hU2'⟩
                case measure => simp [lenOf]; omega
              · have hb : ((d.toNat : Int) == 48) = false := by rw [beq_eq_false_iff_ne]; intro e; exact hz (UInt8.toNat_inj.1 (show d.toNat = 48 by omega))
                have h1 : Hid (us.length = 1 ∨ ∃ h : 0 < us.length, us[0] ≠ 48) := Lib.hid (.inr ⟨hpos, by rw [hd0]; exact hz⟩)
                clear hd0 hz
                have h2 : Hid (a = 0 ∨ num us % 2 = 1) := Lib.hid (odd_of hodd.out (by rw [hU.out]; exact hN2.out))
                have h5 : Hid (b = 0 ∨ num us % 5 ≠ 0) := Lib.hid (by rw [hU.out]; exact hfive.out)
                have HT : Hid (repr (Rat.divInt (num us : Int) ((2 ^ a * 5 ^ b : Nat) : Int)) = R) := Lib.hid (by rw [← HR.out, taken (N := num L) (D := num us) hai hbj (by rw [Nat.mul_right_comm, hU.out, hN2.out, hN.out])])
                by_cases hten : 10 < us.length
                · first
                    | (exfalso; omega)
                    | (have fin : Hid (R = (0, 0, 2)) := Lib.hid (by rw [← HT.out]; exact low_big h2.out h5.out (by left; exact big_num hU1.out.all h1.out hten))
                       have z0 := hB2.cellv 0 _ rfl
                       have z1 := hB2.cellv 1 _ rfl
                       have f0 := hB2.free 0
                       have f1 := hB2.free 1
                       go_wp2_with fail
                       exact bodyPost_ret (v := .tuple #[.agg #[.int .i64 0, .int .i64 0], .int .i64 2]) (by simp [results, Tryd.results33, go_sem, z0, z1]) rfl (ret_of fin.out (by first | exact hB3 | exact below_setAt hB3 _ (Nat.le_refl _) _ _)))
                · have hall := Lib.hid hU1.out.all
                  clear hN hN2 hU hodd hfive HR hU1 h1
                  go_wp2_with fail
                  go_loop [9, 11] (fun nv iv => ∃ k n : Nat, k ≤ us.length ∧ iv = .int .i64 (k : Int) ∧ nv = .int .i64 (n : Int) ∧ n ≤ 10000000000 ∧ Hid (num (us.take k) = n)) (fun _ iv => us.length - (intOf iv).toNat)
                  case atStart => exact ⟨0, 0, Nat.zero_le _, rfl, rfl, by omega, Lib.hid (by simp [Len.num_eq, numF_nil])⟩
                  case round =>
                    obtain ⟨k, n, hk, rfl, rfl, hn, en⟩ := hrel
                    by_cases hlt : k < us.length
                    · obtain ⟨d, ed⟩ : ∃ d, us[k] = d := ⟨_, rfl⟩
                      have hcell : wr.cell? ⟨g, off + k, none⟩ = some (.int .u8 (d.toNat : Int)) := by rw [← ed]; exact hU2.out _ hlt
                      have h48 := digit_le (List.all_eq_true.1 hall.out d (by rw [← ed]; exact List.getElem_mem _))
                      have nxt : Hid (num (us.take (k + 1)) = 10 * n + (d.toNat - 48)) := Lib.hid (by rw [List.take_succ_eq_append_getElem hlt, num_snoc, en.out, ed, Nat.mul_comm])
                      have hlim : 10 * n + (d.toNat - 48) ≤ 10000000000 := by rw [← nxt.out]; exact small_num hall.out (by omega)
                      clear ed
                      go_wp2_with fail
                      go_round
                      case rel => exact ⟨k + 1, 10 * n + (d.toNat - 48), by omega, by go_num, by go_num, hlim, nxt⟩
                      case measure => simp [intOf]; omega
                    · obtain rfl : k = us.length := by omega
                      rw [List.take_length] at en
                      rw [en.out] at h2 h5 HT
                      go_wp2_with fail
                      go_loop [10, 12] (fun dv iv => ∃ k m : Nat, k ≤ a ∧ iv = .int .i64 (k : Int) ∧ dv = .int .i64 (m : Int) ∧ m ≤ 2147483647 ∧ Hid (m = 2 ^ k)) (fun _ iv => a - (intOf iv).toNat)
                      case atStart => exact ⟨0, 1, Nat.zero_le _, rfl, rfl, by omega, Lib.hid rfl⟩
                      case round =>
                        obtain ⟨k, m, hk, rfl, rfl, hm, em⟩ := hrel
                        by_cases hlt : k < a
                        · by_cases hbig : 2147483647 < m * 2
                          · have fin : Hid (R = (0, 0, 2)) := Lib.hid (by rw [← HT.out]; exact low_big h2.out h5.out (by right; have h := Nat.pow_le_pow_right (n := 2) (by decide) (show k + 1 ≤ a by omega); have h' := Nat.mul_le_mul h (Nat.one_le_pow b 5 (by decide)); rw [Nat.pow_succ, ← em.out, Nat.mul_one] at h'; omega))
                            have z0 := hB2.cellv 0 _ rfl
                            have z1 := hB2.cellv 1 _ rfl
                            have f0 := hB2.free 0
                            have f1 := hB2.free 1
                            go_wp2_with fail
                            exact bodyPost_ret (v := .tuple #[.agg #[.int .i64 0, .int .i64 0], .int .i64 2]) (by simp [results, Tryd.results33, go_sem, z0, z1]) rfl (ret_of fin.out (by first | exact hB3 | exact below_setAt hB3 _ (Nat.le_refl _) _ _))
                          · have nxt : Hid (m * 2 = 2 ^ (k + 1)) := Lib.hid (by rw [Nat.pow_succ, ← em.out])
                            go_wp2_with fail
                            go_round
                            case rel => exact ⟨k + 1, m * 2, by omega, by go_num, by go_num, by omega, nxt⟩
                            case measure => simp [intOf]; omega
                        · obtain rfl : a = k := by omega
                          have hm5 := hm
                          have e5 := em
                          go_wp2_with fail
                          go_loop [10, 13] (fun dv iv => ∃ k m : Nat, k ≤ b ∧ iv = .int .i64 (k : Int) ∧ dv = .int .i64 (m : Int) ∧ m ≤ 2147483647 ∧ Hid (m = 2 ^ a * 5 ^ k)) (fun _ iv => b - (intOf iv).toNat)
                          case atStart => exact ⟨0, m, Nat.zero_le _, rfl, rfl, hm5, Lib.hid (by rw [Nat.pow_zero, Nat.mul_one]; exact e5.out)⟩
                          case round =>
                            clear e5 hm5 hm em hk
                            obtain ⟨k, m, hk, rfl, rfl, hm, em⟩ := hrel
                            by_cases hlt : k < b
                            · by_cases hbig : 2147483647 < m * 5
                              · have fin : Hid (R = (0, 0, 2)) := Lib.hid (by rw [← HT.out]; exact low_big h2.out h5.out (by right; have h := Nat.pow_le_pow_right (n := 5) (by decide) (show k + 1 ≤ b by omega); have h' := Nat.mul_le_mul_left (2 ^ a) h; rw [Nat.pow_succ, ← Nat.mul_assoc, ← em.out] at h'; omega))
                                have z0 := hB2.cellv 0 _ rfl
                                have z1 := hB2.cellv 1 _ rfl
                                have f0 := hB2.free 0
                                have f1 := hB2.free 1
                                go_wp2_with fail
                                exact bodyPost_ret (v := .tuple #[.agg #[.int .i64 0, .int .i64 0], .int .i64 2]) (by simp [results, Tryd.results33, go_sem, z0, z1]) rfl (ret_of fin.out (by first | exact hB3 | exact below_setAt hB3 _ (Nat.le_refl _) _ _))
                              · have nxt : Hid (m * 5 = 2 ^ a * 5 ^ (k + 1)) := Lib.hid (by rw [Nat.pow_succ, ← Nat.mul_assoc, ← em.out])
                                go_wp2_with fail
                                go_round
                                case rel => exact ⟨k + 1, m * 5, by omega, by go_num, by go_num, by omega, nxt⟩
                                case measure => simp [intOf]; omega
                            · obtain rfl : b = k := by omega
                              have HM : Hid (makeZ (n : Int) (m : Int) = R) := Lib.hid (by
                                have hp : 0 < m := by rw [em.out]; exact Nat.mul_pos (Nat.pow_pos (by decide)) (Nat.pow_pos (by decide))
                                rw [makeZ, if_neg (by omega), em.out]; exact HT.out)
                              clear h2 h5 HT em
                              go_wp2_with fail
                              refine (make_ret HM _ (by omega) (by omega) (by omega) (by omega)).mono ?_
                              rintro e w' ⟨rfl, hb'⟩
                              have hB4 := hB2.go hb'
                              have z0 := hB4.cellv 0 _ rfl
                              have z1 := hB4.cellv 1 _ rfl
                              have f0 := hB4.free 0
                              have f1 := hB4.free 1
                              have hB5 := below_go hB3 hb'
                              clear hb'
                              go_wp2_with fail
                              exact bodyPost_ret (v := .tuple #[.agg #[.int .i64 R.1, .int .i64 R.2.1], .int .i64 R.2.2]) (by simp [results, Tryd.results33, go_sem, z0, z1]) rfl ⟨rfl, by first | exact hB5 | exact below_setAt hB5 _ (Nat.le_refl _) _ _⟩
            · have hl1 : us.length = 1 := by omega
              have h1 : Hid (us.length = 1 ∨ ∃ h : 0 < us.length, us[0] ≠ 48) := Lib.hid (.inl hl1)
              clear hd0
              have h2 : Hid (a = 0 ∨ num us % 2 = 1) := Lib.hid (odd_of hodd.out (by rw [hU.out]; exact hN2.out))
              have h5 : Hid (b = 0 ∨ num us % 5 ≠ 0) := Lib.hid (by rw [hU.out]; exact hfive.out)
              have HT : Hid (repr (Rat.divInt (num us : Int) ((2 ^ a * 5 ^ b : Nat) : Int)) = R) := Lib.hid (by rw [← HR.out, taken (N := num L) (D := num us) hai hbj (by rw [Nat.mul_right_comm, hU.out, hN2.out, hN.out])])
              by_cases hten : 10 < us.length
              · first
                  | (exfalso; omega)
                  | (have fin : Hid (R = (0, 0, 2)) := Lib.hid (by rw [← HT.out]; exact low_big h2.out h5.out (by left; exact big_num hU1.out.all h1.out hten))
                     have z0 := hB2.cellv 0 _ rfl
                     have z1 := hB2.cellv 1 _ rfl
                     have f0 := hB2.free 0
                     have f1 := hB2.free 1
                     go_wp2_with fail
                     exact bodyPost_ret (v := .tuple #[.agg #[.int .i64 0, .int .i64 0], .int .i64 2]) (by simp [results, Tryd.results33, go_sem, z0, z1]) rfl (ret_of fin.out (by first | exact hB3 | exact below_setAt hB3 _ (Nat.le_refl _) _ _)))
              · have hall := Lib.hid hU1.out.all
                clear hN hN2 hU hodd hfive HR hU1 h1
                go_wp2_with fail
                go_loop [9, 11] (fun nv iv => ∃ k n : Nat, k ≤ us.length ∧ iv = .int .i64 (k : Int) ∧ nv = .int .i64 (n : Int) ∧ n ≤ 10000000000 ∧ Hid (num (us.take k) = n)) (fun _ iv => us.length - (intOf iv).toNat)
                case atStart => exact ⟨0, 0, Nat.zero_le _, rfl, rfl, by omega, Lib.hid (by simp [Len.num_eq, numF_nil])⟩
                case round =>
                  obtain ⟨k, n, hk, rfl, rfl, hn, en⟩ := hrel
                  by_cases hlt : k < us.length
                  · obtain ⟨d, ed⟩ : ∃ d, us[k] = d := ⟨_, rfl⟩
                    have hcell : wr.cell? ⟨g, off + k, none⟩ = some (.int .u8 (d.toNat : Int)) := by rw [← ed]; exact hU2.out _ hlt
                    have h48 := digit_le (List.all_eq_true.1 hall.out d (by rw [← ed]; exact List.getElem_mem _))
                    have nxt : Hid (num (us.take (k + 1)) = 10 * n + (d.toNat - 48)) := Lib.hid (by rw [List.take_succ_eq_append_getElem hlt, num_snoc, en.out, ed, Nat.mul_comm])
                    have hlim : 10 * n + (d.toNat - 48) ≤ 10000000000 := by rw [← nxt.out]; exact small_num hall.out (by omega)
                    clear ed
                    go_wp2_with fail
                    go_round
                    case rel => exact ⟨k + 1, 10 * n + (d.toNat - 48), by omega, by go_num, by go_num, hlim, nxt⟩
                    case measure => simp [intOf]; omega
                  · obtain rfl : k = us.length := by omega
                    rw [List.take_length] at en
                    rw [en.out] at h2 h5 HT
                    go_wp2_with fail
                    go_loop [10, 12] (fun dv iv => ∃ k m : Nat, k ≤ a ∧ iv = .int .i64 (k : Int) ∧ dv = .int .i64 (m : Int) ∧ m ≤ 2147483647 ∧ Hid (m = 2 ^ k)) (fun _ iv => a - (intOf iv).toNat)
                    case atStart => exact ⟨0, 1, Nat.zero_le _, rfl, rfl, by omega, Lib.hid rfl⟩
                    case round =>
                      obtain ⟨k, m, hk, rfl, rfl, hm, em⟩ := hrel
                      by_cases hlt : k < a
                      · by_cases hbig : 2147483647 < m * 2
                        · have fin : Hid (R = (0, 0, 2)) := Lib.hid (by rw [← HT.out]; exact low_big h2.out h5.out (by right; have h := Nat.pow_le_pow_right (n := 2) (by decide) (show k + 1 ≤ a by omega); have h' := Nat.mul_le_mul h (Nat.one_le_pow b 5 (by decide)); rw [Nat.pow_succ, ← em.out, Nat.mul_one] at h'; omega))
                          have z0 := hB2.cellv 0 _ rfl
                          have z1 := hB2.cellv 1 _ rfl
                          have f0 := hB2.free 0
                          have f1 := hB2.free 1
                          go_wp2_with fail
                          exact bodyPost_ret (v := .tuple #[.agg #[.int .i64 0, .int .i64 0], .int .i64 2]) (by simp [results, Tryd.results33, go_sem, z0, z1]) rfl (ret_of fin.out (by first | exact hB3 | exact below_setAt hB3 _ (Nat.le_refl _) _ _))
                        · have nxt : Hid (m * 2 = 2 ^ (k + 1)) := Lib.hid (by rw [Nat.pow_succ, ← em.out])
                          go_wp2_with fail
                          go_round
                          case rel => exact ⟨k + 1, m * 2, by omega, by go_num, by go_num, by omega, nxt⟩
                          case measure => simp [intOf]; omega
                      · obtain rfl : a = k := by omega
                        have hm5 := hm
                        have e5 := em
                        go_wp2_with fail
                        go_loop [10, 13] (fun dv iv => ∃ k m : Nat, k ≤ b ∧ iv = .int .i64 (k : Int) ∧ dv = .int .i64 (m : Int) ∧ m ≤ 2147483647 ∧ Hid (m = 2 ^ a * 5 ^ k)) (fun _ iv => b - (intOf iv).toNat)
                        case atStart => exact ⟨0, m, Nat.zero_le _, rfl, rfl, hm5, Lib.hid (by rw [Nat.pow_zero, Nat.mul_one]; exact e5.out)⟩
                        case round =>
                          clear e5 hm5 hm em hk
                          obtain ⟨k, m, hk, rfl, rfl, hm, em⟩ := hrel
                          by_cases hlt : k < b
                          · by_cases hbig : 2147483647 < m * 5
                            · have fin : Hid (R = (0, 0, 2)) := Lib.hid (by rw [← HT.out]; exact low_big h2.out h5.out (by right; have h := Nat.pow_le_pow_right (n := 5) (by decide) (show k + 1 ≤ b by omega); have h' := Nat.mul_le_mul_left (2 ^ a) h; rw [Nat.pow_succ, ← Nat.mul_assoc, ← em.out] at h'; omega))
                              have z0 := hB2.cellv 0 _ rfl
                              have z1 := hB2.cellv 1 _ rfl
                              have f0 := hB2.free 0
                              have f1 := hB2.free 1
                              go_wp2_with fail
                              exact bodyPost_ret (v := .tuple #[.agg #[.int .i64 0, .int .i64 0], .int .i64 2]) (by simp [results, Tryd.results33, go_sem, z0, z1]) rfl (ret_of fin.out (by first | exact hB3 | exact below_setAt hB3 _ (Nat.le_refl _) _ _))
                            · have nxt : Hid (m * 5 = 2 ^ a * 5 ^ (k + 1)) := Lib.hid (by rw [Nat.pow_succ, ← Nat.mul_assoc, ← em.out])
                              go_wp2_with fail
                              go_round
                              case rel => exact ⟨k + 1, m * 5, by omega, by go_num, by go_num, by omega, nxt⟩
                              case measure => simp [intOf]; omega
                          · obtain rfl : b = k := by omega
                            have HM : Hid (makeZ (n : Int) (m : Int) = R) := Lib.hid (by
                              have hp : 0 < m := by rw [em.out]; exact Nat.mul_pos (Nat.pow_pos (by decide)) (Nat.pow_pos (by decide))
                              rw [makeZ, if_neg (by omega), em.out]; exact HT.out)
                            clear h2 h5 HT em
                            go_wp2_with fail
                            refine (make_ret HM _ (by omega) (by omega) (by omega) (by omega)).mono ?_
                            rintro e w' ⟨rfl, hb'⟩
                            have hB4 := hB2.go hb'
                            have z0 := hB4.cellv 0 _ rfl
                            have z1 := hB4.cellv 1 _ rfl
                            have f0 := hB4.free 0
                            have f1 := hB4.free 1
                            have hB5 := below_go hB3 hb'
                            clear hb'
                            go_wp2_with fail
                            exact bodyPost_ret (v := .tuple #[.agg #[.int .i64 R.1, .int .i64 R.2.1], .int .i64 R.2.2]) (by simp [results, Tryd.results33, go_sem, z0, z1]) rfl ⟨rfl, by first | exact hB5 | exact below_setAt hB5 _ (Nat.le_refl _) _ _⟩

end Go.Proofs.YtggiljlndenjoaaDoor.RatM
