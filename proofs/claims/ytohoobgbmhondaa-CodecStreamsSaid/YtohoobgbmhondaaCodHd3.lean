/- Encode of the reference. -/
import Derived.Test.YtohoobgbmhondaaCodHd2
namespace Go.Proofs.Ytohoobgbmhondaa.Cod
open Go Go.RowKit Go.Lib

/-- append of a string, as a step of a region that draws its order -/
theorem step_append_str {P : Program} {ops : Array Oper} {o : Oper} {a : Act} {w : World} {K : Act → World → Prop} {Q : Exit → Act → World → Prop} {E : Prop}
    (hg : o.guard = none) (sl x : Operand) (t u : TypeId) (hop : o.op = Op.call { callee := Callee.builtin Builtin.append, args := #[sl, x], argTypes := #[t, u] })
    (base : Nat) (e : TypeId) (i : TypeInfo) (ht : P.underlying t = some (.slice e)) (hu : P.underlying u = some .string) (hi : P.info? e = some i) (hz : i.zero = some (.int .u8 0))
    (hsize : i.size = 1) (hby : i.bytes = 1)
    (v : Value) (n : Nat) (hn : 0 < n) (xs : List Value) (hs : a.eval sl = v) (hown : w.ownsRow base e 1 v n xs) (s : ByteArray) (hx : a.eval x = .string s)
    (h63 : n + s.size ≤ maxLen) (hbytes : n + s.size ≤ 140737488355328) (hbase : base ≤ w.heap.size)
    (h : ∀ v' w', w'.ownsRow base e 1 v' (n + s.size) (xs ++ strCells s) → w.grownBy w' v.ownBlock → (v'.ownBlock = v.ownBlock ∨ v'.ownBlock = some w.heap.size) → K (a.put o.dst v') w') :
    if Region.wanted o (yielded ops a.tmps) = true then Oper.wp P o a w K Q else E := by
  have hw : Region.wanted o (yielded ops a.tmps) = true := by simp [Region.wanted, hg]
  rw [if_pos hw]
  obtain ⟨v', w', hr, h2, h3, _⟩ := run_append_own_string (P := P) w base t u o.type e i ht hu hi hz hsize hby v n xs hown s h63 hbytes hbase
  have hat := str_place ht hu hi hz hsize hby hown hn hbytes hr
  unfold Oper.wp execOp
  simp only [hop, resolve, invoke, builtin, Sem.run_bind, Sem.run_pure, Result.andThen_ok, List.map_toArray, List.map_cons, List.map_nil, hs, hx, hr]
  exact h v' w' h2 h3 hat
theorem byt_app2 {w : World} {base : Nat} {v : Value} {l m : List UInt8} (h : w.ownsRow base 5 1 v (l.length + m.length) (cellsL l ++ cellsL m)) : Byt w base v (l ++ m) := by
  unfold Byt cellsL at *
  rw [List.map_append, List.length_append]
  exact h
theorem Byt.some_of {w : World} {base n c : Nat} {A : Option Addr} {l : List UInt8} (h : Byt w base (.slice A n c) l) (hl : 0 < l.length) : ∃ a, A = some a := by
  cases A with
  | none => rw [(Byt.none_nil h).1] at hl; exact absurd hl (by simp)
  | some a => exact ⟨a, rfl⟩
end Go.Proofs.Ytohoobgbmhondaa.Cod
