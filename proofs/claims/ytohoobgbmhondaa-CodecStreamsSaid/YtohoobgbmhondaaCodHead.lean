/- appendHead of package codec. -/
import Derived.Test.YtohoobgbmhondaaCodNum
import Derived.Deep.OwnRows
namespace Go.Proofs.Ytohoobgbmhondaa.Cod
open Go Go.RowKit

def cellsL (l : List UInt8) : List Value := l.map fun c => .int .u8 (c.toNat : Int)
/-- the bytes of a slice of the call's own -/
def Byt (w : World) (base : Nat) (v : Value) (l : List UInt8) : Prop := w.ownsRow base 5 1 v l.length (cellsL l)
/-- what an append leaves as it was -/
structure Grew (w w' : World) (v v' : Value) : Prop where
  by_ : w.grownBy w' v.ownBlock
  own : ∀ k, v'.ownBlock = some k → v.ownBlock = some k ∨ w.heap.size ≤ k
theorem Grew.refl (w : World) (v : Value) : Grew w w v v := ⟨World.grownBy.refl _ _, fun _ h => .inl h⟩
theorem Grew.ne {w w' : World} {v v' : Value} (h : Grew w w' v v') {k : Nat} (hk : k < w.heap.size) (hne : some k ≠ v.ownBlock) : some k ≠ v'.ownBlock := by
  intro e
  rcases h.own k e.symm with h1 | h1
  · exact hne h1.symm
  · omega
theorem Grew.trans {w w1 w2 : World} {v v1 v2 : Value} (h : Grew w w1 v v1) (g : Grew w1 w2 v1 v2) : Grew w w2 v v2 := by
  refine ⟨⟨g.by_.os.trans h.by_.os, g.by_.tape.trans h.by_.tape, g.by_.output.trans h.by_.output, Nat.le_trans h.by_.size g.by_.size, fun k hk hne => ?_⟩, fun k hk => ?_⟩
  · exact (g.by_.block k (Nat.lt_of_lt_of_le hk h.by_.size) (h.ne hk hne)).trans (h.by_.block k hk hne)
  · rcases g.own k hk with h1 | h1
    · exact h.own k h1
    · exact .inr (Nat.le_trans h.by_.size h1)
theorem Grew.below {w w1 w2 : World} {v v1 : Value} (h : Grew w w1 v v1) (hb : Below w1.heap.size w1 w2) : Grew w w2 v v1 :=
  ⟨⟨hb.os.trans h.by_.os, hb.tape.trans h.by_.tape, hb.output.trans h.by_.output, Nat.le_trans h.by_.size hb.size, fun k hk hne => (hb.block k (Nat.lt_of_lt_of_le hk h.by_.size)).trans (h.by_.block k hk hne)⟩, h.own⟩
theorem Grew.of_below {w w1 : World} (hb : Below w.heap.size w w1) (v : Value) : Grew w w1 v v := (Grew.refl w v).below hb
theorem Grew.cell {w w' : World} {v v' : Value} (h : Grew w w' v v') {b o : Nat} {x : Value} (hx : w.cell? ⟨b, o, none⟩ = some x) (hne : some b ≠ v.ownBlock) : w'.cell? ⟨b, o, none⟩ = some x := h.by_.cell hx hne
theorem Grew.size {w w' : World} {v v' : Value} (h : Grew w w' v v') : w.heap.size ≤ w'.heap.size := h.by_.size
theorem Grew.belowB {a w w' : World} {v v' : Value} {n : Nat} (h : Grew w w' v v') (hb : Below n a w) (hn : n ≤ w.heap.size) (hv : ∀ k, v.ownBlock = some k → n ≤ k) : Below n a w' := hb.grown h.by_ hn hv
theorem Byt.below {w w' : World} {base : Nat} {v : Value} {l : List UInt8} (h : Byt w base v l) (hb : Below w.heap.size w w') : Byt w' base v l := by
  refine ⟨h.1, ?_⟩
  rcases h.2 with hn | ⟨g, cap, cur, rfl, hbg, hgg, rest⟩
  · exact .inl hn
  · exact .inr ⟨g, cap, cur, rfl, hbg, (hb.block g (Array.getElem?_eq_some_iff.1 hgg).1).trans hgg, rest⟩
theorem Byt.low {w : World} {base : Nat} {v : Value} {l : List UInt8} (h : Byt w base v l) : ∀ k, v.ownBlock = some k → base ≤ k := fun k hk => (h.lt k hk).1
theorem Byt.ne {w : World} {base : Nat} {v : Value} {l : List UInt8} (h : Byt w base v l) {k : Nat} (hk : k < base) : some k ≠ v.ownBlock := fun e => by have := h.low k e.symm; omega
theorem Byt.new {w : World} {base : Nat} {v : Value} {l : List UInt8} (h : Byt w base v l) {k : Nat} (hk : w.heap.size ≤ k) : some k ≠ v.ownBlock := fun e => by have := (h.lt k e.symm).2; omega
theorem info_u8 : (Try.prog.info? 5).map (fun i => (i.zero, i.size, i.bytes)) = some (some (.int .u8 0), 1, 1) := by kernel_rfl
theorem byte_nat (n : Nat) : ((UInt8.ofNat n).toNat : Int) = (n : Int) % 256 := by rw [UInt8.toNat_ofNat']; simp
theorem byt_snoc {w' : World} {base : Nat} {v' : Value} {l : List UInt8} {c : UInt8} {x : Int} (hx : x = (c.toNat : Int)) (h : w'.ownsRow base 5 1 v' (l.length + 1) (cellsL l ++ [.int .u8 x])) : Byt w' base v' (l ++ [c]) := by
  subst hx
  unfold Byt cellsL at *
  rw [List.map_append, List.length_append]
  exact h
theorem Grew.app {w w0 w1 : World} {v v' : Value} {m : Nat} (h0 : Below w.heap.size w w0) (hg : w0.grownBy w1 v.ownBlock) (hat : v'.ownBlock = v.ownBlock ∨ v'.ownBlock = some m) (hm : w.heap.size ≤ m) : Grew w w1 v v' := by
  refine ⟨⟨hg.os.trans h0.os, hg.tape.trans h0.tape, hg.output.trans h0.output, Nat.le_trans h0.size hg.size, fun k hk hne => (hg.block k (Nat.lt_of_lt_of_le hk h0.size) hne).trans (h0.block k hk)⟩, fun k hk => ?_⟩
  rcases hat with e | e
  · exact .inl (e ▸ hk)
  · right; rw [e] at hk; have := Option.some.inj hk; omega
def Put (base : Nat) (w : World) (v : Value) (l : List UInt8) (e : Ending) (w' : World) : Prop := ∃ v', e = .returned v' ∧ Byt w' base v' l ∧ Grew w w' v v'

set_option maxHeartbeats 1000000 in
/-- appendHead of a small number -/
theorem head_small (base : Nat) (v : Value) (l : List UInt8) (k n : Nat) (w : World) (hB : Byt w base v l) (hb : base ≤ w.heap.size) (hl : l.length ≤ 4000000) (hk : k ≤ 3) (hn : n < 56) :
    Calls Try.prog 35 #[v, .int .i64 k, .int .u64 n] w (Put base w v (l ++ headL k n)) := by
  obtain ⟨i0, hi, hz0, hz1, hz2⟩ := info_parts info_u8
  have hh : Hid (headL k n = [UInt8.ofNat (64 * k + n)]) := Lib.hid (by unfold headL; rw [if_pos hn])
  have hbyte : Hid (((k : Int) * 64 + n) = ((UInt8.ofNat (64 * k + n)).toNat : Int)) := Lib.hid (by rw [byte_nat]; push_cast; omega)
  go_enter Try.func35, Try.ntmps35
  go_wp2_with (first
    | (at_builtin; refine wpList_append_own_at _ rfl _ _ 24 rfl base 5 i0 (.int .u8 0) 1 1 Try.underlying24 hi hz0 hz1 hz2 rfl (by decide) v l.length (cellsL l) rfl (hB.below (below_new _ _)) ⟨w.heap.size, 0, none⟩ 1 1 [_] rfl rfl (cell_one_new _ _ _) ?c2 ?c3 ?c4 ?c5 ?_)
    | fail)
  case c2 => intro u hu; simp at hu; subst hu; rfl
  case c3 => unfold maxLen; omega
  case c4 => omega
  case c5 => simp; omega
  intro v' w1 hown hgrow _ hat
  go_wp2
  go_ret
  exact ⟨v', rfl, by rw [hh.out]; exact byt_snoc hbyte.out hown, Grew.app (below_new w _) hgrow hat (Nat.le_succ _)⟩

set_option maxHeartbeats 1000000 in
/-- appendHead of a great number -/
theorem head_great (base : Nat) (v : Value) (l : List UInt8) (k n : Nat) (w : World) (hB : Byt w base v l) (hb : base ≤ w.heap.size) (hl : l.length ≤ 4000000) (hk : k ≤ 3) (hn : 56 ≤ n) (hn2 : n < 18446744073709551616) :
    Calls Try.prog 35 #[v, .int .i64 k, .int .u64 n] w (Put base w v (l ++ headL k n)) := by
  obtain ⟨i0, hi, hz0, hz1, hz2⟩ := info_parts info_u8
  obtain ⟨kk, hkk⟩ : ∃ kk, nb n = kk := ⟨_, rfl⟩
  have h8 : kk ≤ 8 := hkk ▸ nb8 hn2
  have h1 : 1 ≤ kk := hkk ▸ nb_one (by omega)
  obtain ⟨B, hBl⟩ : ∃ B, Lib.bitLen n = B := ⟨_, rfl⟩
  have hq0 := nb_len hn2
  rw [hBl, hkk] at hq0
  have hB64 : B ≤ 64 := hBl ▸ Lib.bitLen_le n 64 (by omega) (by simpa using hn2)
  have hq : ((B : Int) + 7) / 8 = (kk : Int) := by omega
  have HC : Hid (∀ W, Calls Try.prog 44 #[.int .u64 n] W fun e w' => e = .returned (.int .i64 (B : Int)) ∧ W = w') := Lib.hid fun W => by
    have := Try.bits_Len64 (n : Int) W (by omega) (by omega)
    rw [show ((n : Int).toNat) = n from Int.toNat_natCast n, hBl] at this
    exact this.mono fun e w' ⟨h1, h2⟩ => ⟨h1, h2.symm⟩
  have hh : Hid (headL k n = [UInt8.ofNat (64 * k + 55 + kk)] ++ be kk n) := Lib.hid (by unfold headL; rw [if_neg (by omega), hkk]; rfl)
  have hbyte : Hid (((k : Int) * 64 + 56 - 1 + kk) = ((UInt8.ofNat (64 * k + 55 + kk)).toNat : Int)) := Lib.hid (by rw [byte_nat]; push_cast; omega)
  have hge : ¬ (n : Int) < 56 := by omega
  have hn3 : (n : Int) ≤ 18446744073709551615 := by omega
  clear hkk hBl hq0 hn2
  go_enter Try.func35, Try.ntmps35
  go_wp2_with (first
    | (go_at_call 44; refine (HC.out _).mono ?_; rintro e w' ⟨rfl, rfl⟩)
    | (at_builtin; refine wpList_append_own_at _ rfl _ _ 24 rfl base 5 i0 (.int .u8 0) 1 1 Try.underlying24 hi hz0 hz1 hz2 rfl (by decide) v l.length (cellsL l) rfl (hB.below (below_new _ _)) ⟨w.heap.size, 0, none⟩ 1 1 [_] rfl rfl (cell_one_new _ _ _) ?c2 ?c3 ?c4 ?c5 ?_)
    | fail)
  case c2 => intro u hu; simp at hu; subst hu; rfl
  case c3 => unfold maxLen; omega
  case c4 => omega
  case c5 => simp; omega
  intro v' w1 hown hgrow _ hat
  have HY : Hid (Byt w1 base v' (l ++ [UInt8.ofNat (64 * k + 55 + kk)] ++ (be kk n).take (kk - kk))) := Lib.hid (by rw [Nat.sub_self, List.take_zero, List.append_nil]; exact byt_snoc hbyte.out hown)
  have HG : Hid (Grew w w1 v v') := Lib.hid (Grew.app (below_new w _) hgrow hat (Nat.le_succ _))
  clear hown hgrow hat
  go_wp2_with fail
  go_loopw [0, 8] (fun b i wr => ∃ (m : Nat) (vb : Value), m ≤ kk ∧ i = .int .i64 ((m : Int) - 1) ∧ vb = b ∧ Hid (Byt wr base vb (l ++ [UInt8.ofNat (64 * k + 55 + kk)] ++ (be kk n).take (kk - m))) ∧ Hid (Grew w wr v vb))
    (fun _ i _ => (intOf i + 1).toNat)
  case atStart => exact ⟨kk, _, Nat.le_refl _, rfl, rfl, HY, HG⟩
  case round =>
    obtain ⟨m, b, hm, rfl, rfl, HBy, HGr⟩ := hrel
    by_cases h0 : m = 0
    · subst h0
      go_wp2_with fail
      go_ret
      refine ⟨_, rfl, ?_, HGr.out⟩
      have := HBy.out
      rw [Nat.sub_zero, List.take_of_length_le (by rw [be_len]; exact Nat.le_refl _), List.append_assoc] at this
      rw [hh.out]; exact this
    · have hge0 : (0 : Int) ≤ (m : Int) - 1 := by omega
      obtain ⟨Lr, hLr⟩ : ∃ Lr, l ++ [UInt8.ofNat (64 * k + 55 + kk)] ++ (be kk n).take (kk - m) = Lr := ⟨_, rfl⟩
      have hlr : Lr.length ≤ 4000009 := by rw [← hLr]; simp [List.length_take]; omega
      have HBL : Hid (Byt wr base b Lr) := Lib.hid (hLr ▸ HBy.out)
      have hbase : base ≤ wr.heap.size := Nat.le_trans hb HGr.out.size
      have HNX : Hid (Lr ++ [UInt8.ofNat (n / 256 ^ (m - 1) % 256)] = l ++ [UInt8.ofNat (64 * k + 55 + kk)] ++ (be kk n).take (kk - (m - 1))) := Lib.hid (by
        rw [← hLr, be_next (show m - 1 < kk by omega), show m - 1 + 1 = m by omega, List.append_assoc (l ++ _)])
      have HBT : Hid ((n : Int) / 2 ^ (8 * (m - 1)) % 256 = ((UInt8.ofNat (n / 256 ^ (m - 1) % 256)).toNat : Int)) := Lib.hid (by
        have h : (n : Int) / 2 ^ (8 * (m - 1)) = ((n / 256 ^ (m - 1) : Nat) : Int) := by
          rw [Int.natCast_ediv, Int.natCast_pow, show ((256 : Nat) : Int) = 2 ^ 8 from rfl, ← Int.pow_mul]
        rw [byte_nat, h]
        generalize n / 256 ^ (m - 1) = q
        omega)
      clear hLr HBy
      go_wp2_with (first
        | (at_builtin; refine wpList_append_own_at _ rfl _ _ 24 rfl base 5 i0 (.int .u8 0) 1 1 Try.underlying24 hi hz0 hz1 hz2 rfl (by decide) b Lr.length (cellsL Lr) rfl (HBL.out.below (below_new _ _)) ⟨wr.heap.size, 0, none⟩ 1 1 [_] rfl rfl (cell_one_new _ _ _) ?c2 ?c3 ?c4 ?c5 ?_)
        | fail)
      case c2 => intro u hu; simp at hu; subst hu; rfl
      case c3 => unfold maxLen; omega
      case c4 => omega
      case c5 => simp; omega
      intro v2 w2 hown hgrow _ hat
      have HY2 : Hid (Byt w2 base v2 (l ++ [UInt8.ofNat (64 * k + 55 + kk)] ++ (be kk n).take (kk - (m - 1)))) := Lib.hid (by rw [← HNX.out]; exact byt_snoc HBT.out hown)
      have HG2 : Hid (Grew w w2 v v2) := Lib.hid (HGr.out.trans (Grew.app (below_new wr _) hgrow hat (Nat.le_succ _)))
      clear hown hgrow hat
      go_wp2_with fail
      go_roundw
      case rel => exact ⟨m - 1, _, by omega, by rw [show ((m - 1 : Nat) : Int) - 1 = (m : Int) - 1 - 1 by omega], rfl, HY2, HG2⟩
      case measure => simp [intOf]; omega
/-- codec.appendHead -/
theorem head_any (base : Nat) (v : Value) (l : List UInt8) (k n : Nat) (w : World) (hB : Byt w base v l) (hb : base ≤ w.heap.size) (hl : l.length ≤ 4000000) (hk : k ≤ 3) (hn : n < 18446744073709551616) :
    Calls Try.prog 35 #[v, .int .i64 k, .int .u64 n] w (Put base w v (l ++ headL k n)) := by
  rcases Nat.lt_or_ge n 56 with h | h
  · exact head_small base v l k n w hB hb hl hk h
  · exact head_great base v l k n w hB hb hl hk h hn
end Go.Proofs.Ytohoobgbmhondaa.Cod
