/- Bytes that the call made itself: a slice of its own, how it grows. -/
import Derived.Test.YtohoobgbmhondaaByte
import Derived.Laws.OwnMore
namespace Go.Proofs.Ytohoobgbmhondaa.By
open Go Go.RowKit Go.Lib

def cellsL (l : List UInt8) : List Value := l.map fun c => .int .u8 (c.toNat : Int)
def Byt (w : World) (base : Nat) (v : Value) (l : List UInt8) : Prop := w.ownsRow base 5 1 v l.length (cellsL l)
structure Grew (w w' : World) (v v' : Value) : Prop where
  by_ : w.grownBy w' v.ownBlock
  own : ∀ k, v'.ownBlock = some k → v.ownBlock = some k ∨ w.heap.size ≤ k
theorem Grew.refl (w : World) (v : Value) : Grew w w v v := ⟨World.grownBy.refl _ _, fun _ h => .inl h⟩
theorem Grew.ne {w w' : World} {v v' : Value} (h : Grew w w' v v') {k : Nat} (hk : k < w.heap.size) (hne : some k ≠ v.ownBlock) : some k ≠ v'.ownBlock := by
  intro e
  rcases h.own k e.symm with h1 | h1
  · exact hne h1.symm
  · omega
theorem Grew.trans {w w1 w2 : World} {v v1 v2 : Value} (h : Grew w w1 v v1) (g : Grew w1 w2 v1 v2) : Grew w w2 v v2 := by
  refine ⟨⟨g.by_.os.trans h.by_.os, g.by_.tape.trans h.by_.tape, g.by_.output.trans h.by_.output, Nat.le_trans h.by_.size g.by_.size, fun k hk hne => ?_⟩, fun k hk => ?_⟩
  · exact (g.by_.block k (Nat.lt_of_lt_of_le hk h.by_.size) (h.ne hk hne)).trans (h.by_.block k hk hne)
  · rcases g.own k hk with h1 | h1
    · exact h.own k h1
    · exact .inr (Nat.le_trans h.by_.size h1)
theorem Grew.below {w w1 w2 : World} {v v1 : Value} (h : Grew w w1 v v1) (hb : Below w1.heap.size w1 w2) : Grew w w2 v v1 :=
  ⟨⟨hb.os.trans h.by_.os, hb.tape.trans h.by_.tape, hb.output.trans h.by_.output, Nat.le_trans h.by_.size hb.size, fun k hk hne => (hb.block k (Nat.lt_of_lt_of_le hk h.by_.size)).trans (h.by_.block k hk hne)⟩, h.own⟩
theorem Grew.of_below {w w1 : World} (hb : Below w.heap.size w w1) (v : Value) : Grew w w1 v v := (Grew.refl w v).below hb
theorem Grew.cell {w w' : World} {v v' : Value} (h : Grew w w' v v') {b o : Nat} {x : Value} (hx : w.cell? ⟨b, o, none⟩ = some x) (hne : some b ≠ v.ownBlock) : w'.cell? ⟨b, o, none⟩ = some x := h.by_.cell hx hne
theorem Grew.size {w w' : World} {v v' : Value} (h : Grew w w' v v') : w.heap.size ≤ w'.heap.size := h.by_.size
theorem Grew.belowB {a w w' : World} {v v' : Value} {n : Nat} (h : Grew w w' v v') (hb : Below n a w) (hn : n ≤ w.heap.size) (hv : ∀ k, v.ownBlock = some k → n ≤ k) : Below n a w' := hb.grown h.by_ hn hv
theorem Byt.below {w w' : World} {base : Nat} {v : Value} {l : List UInt8} (h : Byt w base v l) (hb : Below w.heap.size w w') : Byt w' base v l := by
  refine ⟨h.1, ?_⟩
  rcases h.2 with hn | ⟨g, cap, cur, rfl, hbg, hgg, rest⟩
  · exact .inl hn
  · exact .inr ⟨g, cap, cur, rfl, hbg, (hb.block g (Array.getElem?_eq_some_iff.1 hgg).1).trans hgg, rest⟩
theorem Byt.low {w : World} {base : Nat} {v : Value} {l : List UInt8} (h : Byt w base v l) : ∀ k, v.ownBlock = some k → base ≤ k := fun k hk => (h.lt k hk).1
theorem Byt.ne {w : World} {base : Nat} {v : Value} {l : List UInt8} (h : Byt w base v l) {k : Nat} (hk : k < base) : some k ≠ v.ownBlock := fun e => by have := h.low k e.symm; omega
theorem Byt.new {w : World} {base : Nat} {v : Value} {l : List UInt8} (h : Byt w base v l) {k : Nat} (hk : w.heap.size ≤ k) : some k ≠ v.ownBlock := fun e => by have := (h.lt k e.symm).2; omega
theorem info_u8 : (Try.prog.info? 5).map (fun i => (i.zero, i.size, i.bytes)) = some (some (.int .u8 0), 1, 1) := by kernel_rfl
theorem byte_nat (n : Nat) : ((UInt8.ofNat n).toNat : Int) = (n : Int) % 256 := by rw [UInt8.toNat_ofNat']; simp
theorem byt_snoc {w' : World} {base : Nat} {v' : Value} {l : List UInt8} {c : UInt8} {x : Int} (hx : x = (c.toNat : Int)) (h : w'.ownsRow base 5 1 v' (l.length + 1) (cellsL l ++ [.int .u8 x])) : Byt w' base v' (l ++ [c]) := by
  subst hx
  unfold Byt cellsL at *
  rw [List.map_append, List.length_append]
  exact h
theorem Grew.app {w w0 w1 : World} {v v' : Value} {m : Nat} (h0 : Below w.heap.size w w0) (hg : w0.grownBy w1 v.ownBlock) (hat : v'.ownBlock = v.ownBlock ∨ v'.ownBlock = some m) (hm : w.heap.size ≤ m) : Grew w w1 v v' := by
  refine ⟨⟨hg.os.trans h0.os, hg.tape.trans h0.tape, hg.output.trans h0.output, Nat.le_trans h0.size hg.size, fun k hk hne => (hg.block k (Nat.lt_of_lt_of_le hk h0.size) hne).trans (h0.block k hk)⟩, fun k hk => ?_⟩
  rcases hat with e | e
  · exact .inl (e ▸ hk)
  · right; rw [e] at hk; have := Option.some.inj hk; omega
def Put (base : Nat) (w : World) (v : Value) (l : List UInt8) (e : Ending) (w' : World) : Prop := ∃ v', e = .returned v' ∧ Byt w' base v' l ∧ Grew w w' v v'

set_option maxHeartbeats 1000000 in
theorem Grew.nil {w w' : World} {v' : Value} (h : Grew w w' (.slice none 0 0) v') : Below w.heap.size w w' :=
  ⟨h.by_.os, h.by_.tape, h.by_.output, h.by_.size, fun k hk => h.by_.block k hk (by simp [Value.ownBlock])⟩
theorem Byt.nil (w : World) (base : Nat) : Byt w base (.slice none 0 0) [] := World.ownsRow_nil _ _ _ _
theorem Byt.mono {w : World} {base base' : Nat} {v : Value} {l : List UInt8} (h : Byt w base v l) (hb : base' ≤ base) : Byt w base' v l := by
  refine ⟨h.1, ?_⟩
  rcases h.2 with hn | ⟨g, cap, cur, rfl, hbg, hgg, rest⟩
  · exact .inl hn
  · exact .inr ⟨g, cap, cur, rfl, Nat.le_trans hb hbg, hgg, rest⟩
theorem Byt.cells {w : World} {base : Nat} {a : Addr} {n c : Nat} {l : List UInt8} (h : Byt w base (.slice (some a) n c) l) : ∃ g, a = ⟨g, 0, none⟩ ∧ base ≤ g ∧ g < w.heap.size ∧ n = l.length ∧ ∀ j (hj : j < l.length), w.cell? ⟨g, j, none⟩ = some (.int .u8 (l[j].toNat : Int)) := by
  rcases h.2 with ⟨e1, _⟩ | ⟨g, cap, cur, e1, hbg, hgg, _⟩
  · cases e1
  · injection e1 with e1 e2 e3
    injection e1 with e1
    subst e1
    refine ⟨g, rfl, hbg, (Array.getElem?_eq_some_iff.1 hgg).1, e2, fun j hj => ?_⟩
    have := World.ownsRow.cells h (g := g) rfl j (.int .u8 (l[j].toNat : Int)) (by simp [cellsL, List.getElem?_eq_getElem hj])
    rcases j with _ | j <;> simpa [Addr.add] using this
theorem one_owned (w : World) (base : Nat) (x : Value) (hb : base ≤ w.heap.size) : (w.alloc (.cells #[x] 5)).ownsRow base 5 1 (.slice (some ⟨w.heap.size, 0, none⟩) 1 1) 1 [x] :=
  ⟨rfl, .inr ⟨w.heap.size, 1, #[x], rfl, hb, heap_alloc_new w _, Nat.le_refl _, by unfold maxLen; omega, rfl, rfl⟩⟩
theorem Byt.src {w : World} {base : Nat} {a : Addr} {n c : Nat} {l : List UInt8} (h : Byt w base (.slice (some a) n c) l) : ∀ j u, (cellsL l)[j]? = some u → w.cell? (a.add j) = some u := by
  obtain ⟨g, rfl, _, _, _, hc⟩ := h.cells
  intro j u hu
  unfold cellsL at hu
  rw [List.getElem?_map] at hu
  rcases Nat.lt_or_ge j l.length with hj | hj
  · rw [List.getElem?_eq_getElem hj] at hu
    rw [Go.WideShapes.add_plain, Nat.zero_add, hc j hj]
    exact hu
  · rw [List.getElem?_eq_none hj] at hu; cases hu
theorem Byt.none_nil {w : World} {base n c : Nat} {l : List UInt8} (h : Byt w base (.slice none n c) l) : l = [] ∧ n = 0 ∧ c = 0 := by
  rcases h.2 with ⟨e1, e2⟩ | ⟨g, cap, cur, e1, _⟩
  · injection e1 with _ e3 e4
    exact ⟨List.eq_nil_of_length_eq_zero e2, e3, e4⟩
  · cases e1
theorem oneL (l : List UInt8) : ∀ u ∈ cellsL l, u.oneCell' = true := by
  intro u hu
  unfold cellsL at hu
  obtain ⟨x, _, rfl⟩ := List.mem_map.1 hu
  rfl
theorem lenL (l : List UInt8) : (cellsL l).length = l.length * 1 := by simp [cellsL]
theorem byt_cons0 {w : World} {base : Nat} {v : Value} {c : UInt8} {x : Int} (hx : x = (c.toNat : Int)) (h : w.ownsRow base 5 1 v 1 [.int .u8 x]) : Byt w base v [c] := by
  subst hx
  exact h
theorem str_place {P : Program} {w w' : World} {base : Nat} {t u ty e : TypeId} {i : TypeInfo} (ht : P.underlying t = some (.slice e)) (hu : P.underlying u = some .string) (hi : P.info? e = some i) (hz : i.zero = some (.int .u8 0)) (hs1 : i.size = 1) (hby : i.bytes = 1)
    {v v' : Value} {n : Nat} {xs : List Value} (hown : w.ownsRow base e 1 v n xs) (hn : 0 < n) {s : ByteArray} (hb : n + s.size ≤ 140737488355328)
    (hr : (Builtin.append_ #[t, u] ty #[v, .string s]).run P w = .ok v' w') : v'.ownBlock = v.ownBlock ∨ v'.ownBlock = some w.heap.size := by
  rcases hown.2 with ⟨_, h0⟩ | ⟨g, cap, cur, rfl, hbg, hg, hnc, hcm, hcs, htake⟩
  · omega
  · rcases Nat.lt_or_ge cap (n + s.size) with hlt | hge
    · have h2 := run_append_grow_string (P := P) w t u ty e i (.int .u8 0) ht hu hi hz ⟨g, 0, none⟩ n cap xs (by rw [hs1]; exact hown.1) (hown.cells (g := g) rfl) s hlt (by omega) (by rw [hby]; exact growslice_fits (by omega) (by omega))
      rw [h2] at hr
      injection hr with e1 _
      right
      rw [← e1]
      rfl
    · have h2 := run_append_room_string (P := P) w t u ty e i ht hu hi hs1 g n cap cur hg s hge (by omega)
      rw [h2] at hr
      injection hr with e1 _
      left
      rw [← e1]
      rfl
theorem wpList_append_str_at {P : Program} (w : World) {ops : Array Oper} {rest : List Oper} {o : Oper} {a : Act} {Q : Exit → Act → World → Prop} (hgd : o.guard = none) (sl x : Operand) (t u : TypeId)
    (ho : o.op = .call { callee := .builtin .append, args := #[sl, x], argTypes := #[t, u] })
    (base : Nat) (e : TypeId) (i : TypeInfo) (ht : P.underlying t = some (.slice e)) (hu : P.underlying u = some .string) (hi : P.info? e = some i) (hz : i.zero = some (.int .u8 0))
    (hsize : i.size = 1) (hby : i.bytes = 1)
    (v : Value) (n : Nat) (hn : 0 < n) (xs : List Value) (hs : a.eval sl = v) (hown : w.ownsRow base e 1 v n xs) (s : ByteArray) (hx : a.eval x = .string s)
    (h63 : n + s.size ≤ maxLen) (hbytes : n + s.size ≤ 140737488355328) (hbase : base ≤ w.heap.size)
    (h : ∀ v' w', w'.ownsRow base e 1 v' (n + s.size) (xs ++ strCells s) → w.grownBy w' v.ownBlock → (v'.ownBlock = v.ownBlock ∨ v'.ownBlock = some w.heap.size) → wpList P ops Q rest (a.put o.dst v') w') : wpList P ops Q (o :: rest) a w := by
  refine wpList_plain hgd fun K hK => ?_
  obtain ⟨v', w', hr, h2, h3, _⟩ := run_append_own_string (P := P) w base t u o.type e i ht hu hi hz hsize hby v n xs hown s h63 hbytes hbase
  have hat := str_place ht hu hi hz hsize hby hown hn hbytes hr
  unfold Oper.wp execOp
  simp only [ho, resolve, invoke, builtin, Sem.run_bind, Sem.run_pure, Result.andThen_ok, List.map_toArray, List.map_cons, List.map_nil, hs, hx, hr]
  exact hK _ _ (h v' w' h2 h3 hat)
theorem byt_str {w' : World} {base : Nat} {v' : Value} {l : List UInt8} {s : ByteArray} {m : List UInt8} (hs : s.data.toList = m) (h : w'.ownsRow base 5 1 v' (l.length + s.size) (cellsL l ++ strCells s)) : Byt w' base v' (l ++ m) := by
  subst hs
  unfold Byt cellsL at *
  rw [List.map_append, List.length_append]
  have : s.data.toList.length = s.size := by simp
  rw [this]
  exact h
theorem Byt.form {w : World} {base : Nat} {v : Value} {l : List UInt8} (h : Byt w base v l) : ∃ A c, v = .slice A l.length c := by
  rcases h.2 with ⟨e1, e2⟩ | ⟨g, cap, cur, e1, _⟩
  · exact ⟨none, 0, by rw [e1, e2]⟩
  · exact ⟨_, _, e1⟩
def Fresh (w : World) (L : List UInt8) (e : Ending) (w' : World) : Prop := ∃ A c, e = .returned (.slice A L.length c) ∧ Byt w' w.heap.size (.slice A L.length c) L ∧ Below w.heap.size w w'
theorem Fresh.mk {w w' : World} {v : Value} {L : List UInt8} (h : Byt w' w.heap.size v L) (hb : Below w.heap.size w w') : Fresh w L (.returned v) w' := by
  obtain ⟨A, c, rfl⟩ := h.form
  exact ⟨A, c, rfl, h, hb⟩
theorem step_append_str {P : Program} {ops : Array Oper} {o : Oper} {a : Act} {w : World} {K : Act → World → Prop} {Q : Exit → Act → World → Prop} {E : Prop}
    (hg : o.guard = none) (sl x : Operand) (t u : TypeId) (hop : o.op = Op.call { callee := Callee.builtin Builtin.append, args := #[sl, x], argTypes := #[t, u] })
    (base : Nat) (e : TypeId) (i : TypeInfo) (ht : P.underlying t = some (.slice e)) (hu : P.underlying u = some .string) (hi : P.info? e = some i) (hz : i.zero = some (.int .u8 0))
    (hsize : i.size = 1) (hby : i.bytes = 1)
    (v : Value) (n : Nat) (hn : 0 < n) (xs : List Value) (hs : a.eval sl = v) (hown : w.ownsRow base e 1 v n xs) (s : ByteArray) (hx : a.eval x = .string s)
    (h63 : n + s.size ≤ maxLen) (hbytes : n + s.size ≤ 140737488355328) (hbase : base ≤ w.heap.size)
    (h : ∀ v' w', w'.ownsRow base e 1 v' (n + s.size) (xs ++ strCells s) → w.grownBy w' v.ownBlock → (v'.ownBlock = v.ownBlock ∨ v'.ownBlock = some w.heap.size) → K (a.put o.dst v') w') :
    if Region.wanted o (yielded ops a.tmps) = true then Oper.wp P o a w K Q else E := by
  have hw : Region.wanted o (yielded ops a.tmps) = true := by simp [Region.wanted, hg]
  rw [if_pos hw]
  obtain ⟨v', w', hr, h2, h3, _⟩ := run_append_own_string (P := P) w base t u o.type e i ht hu hi hz hsize hby v n xs hown s h63 hbytes hbase
  have hat := str_place ht hu hi hz hsize hby hown hn hbytes hr
  unfold Oper.wp execOp
  simp only [hop, resolve, invoke, builtin, Sem.run_bind, Sem.run_pure, Result.andThen_ok, List.map_toArray, List.map_cons, List.map_nil, hs, hx, hr]
  exact h v' w' h2 h3 hat
theorem byt_app2 {w : World} {base : Nat} {v : Value} {l m : List UInt8} (h : w.ownsRow base 5 1 v (l.length + m.length) (cellsL l ++ cellsL m)) : Byt w base v (l ++ m) := by
  unfold Byt cellsL at *
  rw [List.map_append, List.length_append]
  exact h
theorem Byt.some_of {w : World} {base n c : Nat} {A : Option Addr} {l : List UInt8} (h : Byt w base (.slice A n c) l) (hl : 0 < l.length) : ∃ a, A = some a := by
  cases A with
  | none => rw [(Byt.none_nil h).1] at hl; exact absurd hl (by simp)
  | some a => exact ⟨a, rfl⟩
theorem Byt.set {w : World} {base : Nat} {v : Value} {l : List UInt8} (h : Byt w base v l) {a : Addr} (ha : a.block < base) (u : Value) : Byt (w.setCell a u) base v l := by
  refine ⟨h.1, ?_⟩
  rcases h.2 with hn | ⟨g, cap, cur, rfl, hbg, hgg, rest⟩
  · exact .inl hn
  · exact .inr ⟨g, cap, cur, rfl, hbg, (Go.Deep.blk_setCell_other _ _ _ _ (by omega)).trans hgg, rest⟩
theorem Byt.at_ {w : World} {base : Nat} {A : Option Addr} {n c : Nat} {l : List UInt8} (h : Byt w base (.slice A n c) l) : n = l.length ∧ BytAt w w.heap.size A l := by
  cases A with
  | none => obtain ⟨h1, h2, _⟩ := h.none_nil; exact ⟨by rw [h1, h2]; rfl, .inl h1⟩
  | some a =>
    obtain ⟨g, rfl, _, hg, hn, hc⟩ := h.cells
    exact ⟨hn, .inr ⟨g, 0, rfl, hg, fun j hj => by rw [Nat.zero_add]; exact hc j hj⟩⟩
theorem BytAt.srcL {w : World} {n0 : Nat} {a : Addr} {l : List UInt8} (h : BytAt w n0 (some a) l) : ∀ j u, (cellsL l)[j]? = some u → w.cell? (a.add j) = some u := by
  intro j u hu
  unfold cellsL at hu
  rw [List.getElem?_map] at hu
  rcases Nat.lt_or_ge j l.length with hj | hj
  · obtain ⟨g, off, h1, _, hc⟩ := h.pos (by omega)
    injection h1 with h1
    subst h1
    rw [List.getElem?_eq_getElem hj] at hu
    rw [Go.WideShapes.add_plain, hc j hj]
    exact hu
  · rw [List.getElem?_eq_none hj] at hu; cases hu
/-- append(own bytes, bytes...): whatever the bytes' address -/
theorem wp_append_by {w : World} {o : Oper} {a : Act} {K : Act → World → Prop} {Q : Exit → Act → World → Prop} (s x : Operand)
    (ho : o.op = .call { callee := .builtin .append, args := #[s, x], argTypes := #[24, 24] })
    (base : Nat) (v : Value) (L : List UInt8) (hs : a.eval s = v) (hown : Byt w base v L) (A : Option Addr) (n c n0 : Nat) (M : List UInt8) (hx : a.eval x = .slice A n c) (hn : n = M.length) (hA : A = none → M = [] ∧ c = 0) (hB : BytAt w n0 A M)
    (hbytes : L.length + M.length ≤ 140737488355328) (hbase : base ≤ w.heap.size)
    (h : ∀ v' w', Byt w' base v' (L ++ M) → w.grownBy w' v.ownBlock → (v'.ownBlock = v.ownBlock ∨ v'.ownBlock = some w.heap.size) → K (a.put o.dst v') w') : o.wp Try.prog a w K Q := by
  obtain ⟨i0, hi, hz0, hz1, hz2⟩ := info_parts info_u8
  subst hn
  cases A with
  | none =>
    obtain ⟨rfl, rfl⟩ := hA rfl
    have hrun := run_append_owned_none (P := Try.prog) (w := w) base 24 o.type 5 i0 1 Try.underlying24 hi v L.length (cellsL L) hown
    unfold Oper.wp
    have hx' : a.eval x = .slice none 0 0 := hx
    simp [execOp, ho, resolve, invoke, builtin, hs, hx', hrun, Result.andThen]
    exact h v w (by rw [List.append_nil]; exact hown) (World.grownBy.refl _ _) (.inl rfl)
  | some ad =>
    obtain ⟨v', w', hr, h2, h3, _, h5⟩ := run_append_own_at (P := Try.prog) w base 24 o.type 5 i0 (.int .u8 0) 1 1 Try.underlying24 hi hz0 hz1 hz2 rfl (by decide) v L.length (cellsL L) hown ad M.length c (cellsL M) (lenL M) hB.srcL (oneL M)
      (by unfold maxLen; omega) (by omega) hbase
    unfold Oper.wp execOp
    simp only [ho, resolve, invoke, builtin, Sem.run_bind, Sem.run_pure, Result.andThen_ok, List.map_toArray, List.map_cons, List.map_nil, hs, hx, hr]
    exact h v' w' (byt_app2 h2) h3 h5
theorem wpList_append_by {w : World} {ops : Array Oper} {rest : List Oper} {o : Oper} {a : Act} {Q : Exit → Act → World → Prop} (hgd : Region.wanted o (yielded ops a.tmps) = true) (s x : Operand)
    (ho : o.op = .call { callee := .builtin .append, args := #[s, x], argTypes := #[24, 24] })
    (base : Nat) (v : Value) (L : List UInt8) (hs : a.eval s = v) (hown : Byt w base v L) (A : Option Addr) (n c n0 : Nat) (M : List UInt8) (hx : a.eval x = .slice A n c) (hn : n = M.length) (hA : A = none → M = [] ∧ c = 0) (hB : BytAt w n0 A M)
    (hbytes : L.length + M.length ≤ 140737488355328) (hbase : base ≤ w.heap.size)
    (h : ∀ v' w', Byt w' base v' (L ++ M) → w.grownBy w' v.ownBlock → (v'.ownBlock = v.ownBlock ∨ v'.ownBlock = some w.heap.size) → wpList Try.prog ops Q rest (a.put o.dst v') w') : wpList Try.prog ops Q (o :: rest) a w :=
  wpList_step fun K hK => by
    rw [if_pos hgd]
    exact wp_append_by s x ho base v L hs hown A n c n0 M hx hn hA hB hbytes hbase fun v' w' h1 h2 h3 => hK _ _ (h v' w' h1 h2 h3)
/-- append(own bytes, a string...) -/
theorem wpList_append_str_by {w : World} {ops : Array Oper} {rest : List Oper} {o : Oper} {a : Act} {Q : Exit → Act → World → Prop} (hgd : Region.wanted o (yielded ops a.tmps) = true) (s x : Operand)
    (ho : o.op = .call { callee := .builtin .append, args := #[s, x], argTypes := #[24, 9] })
    (base : Nat) (v : Value) (L : List UInt8) (hL : 0 < L.length) (hs : a.eval s = v) (hown : Byt w base v L) (sb : ByteArray) (M : List UInt8) (hM : sb.data.toList = M) (hx : a.eval x = .string sb)
    (hbytes : L.length + M.length ≤ 140737488355328) (hbase : base ≤ w.heap.size)
    (h : ∀ v' w', Byt w' base v' (L ++ M) → w.grownBy w' v.ownBlock → (v'.ownBlock = v.ownBlock ∨ v'.ownBlock = some w.heap.size) → wpList Try.prog ops Q rest (a.put o.dst v') w') : wpList Try.prog ops Q (o :: rest) a w := by
  obtain ⟨i0, hi, hz0, hz1, hz2⟩ := info_parts info_u8
  have hsz : sb.size = M.length := by subst hM; simp
  refine wpList_step fun K hK => ?_
  rw [if_pos hgd]
  obtain ⟨v', w', hr, h2, h3, _⟩ := run_append_own_string (P := Try.prog) w base 24 9 o.type 5 i0 Try.underlying24 Try.underlying9 hi hz0 hz1 hz2 v L.length (cellsL L) hown sb (by unfold maxLen; omega) (by omega) hbase
  have hat := str_place Try.underlying24 Try.underlying9 hi hz0 hz1 hz2 hown hL (by omega) hr
  unfold Oper.wp execOp
  simp only [ho, resolve, invoke, builtin, Sem.run_bind, Sem.run_pure, Result.andThen_ok, List.map_toArray, List.map_cons, List.map_nil, hs, hx, hr]
  exact hK _ _ (h v' w' (byt_str hM h2) h3 hat)
theorem zero_byt {w : World} {M base : Nat} (hM : w.heap.size = M) (hb : base ≤ M) : Byt (w.alloc (.cells #[] 5)) base (.slice (some ⟨M, 0, none⟩) 0 0) [] := by
  subst hM
  exact ⟨rfl, .inr ⟨w.heap.size, 0, #[], rfl, hb, heap_alloc_new w _, Nat.le_refl _, by unfold maxLen; omega, rfl, rfl⟩⟩
end Go.Proofs.Ytohoobgbmhondaa.By
