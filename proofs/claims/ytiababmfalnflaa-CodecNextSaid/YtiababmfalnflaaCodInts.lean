/- The reference's Number; what an encoding's bytes are to Decode; integers. -/
import Derived.Test.YtiababmfalnflaaCodDec
import Derived.Test.YtiababmfalnflaaCodFew
namespace Go.Proofs.Ytiababmfalnflaa.Cod
open Go Go.RowKit

/-- the reference's Number -/
theorem refnumber_any {k i : Int} {sb : ByteArray} {s : List UInt8} {A : Option Addr} {l : List T} {c : Nat} (hs : sb.data.toList = s) (hi : I64 i) (h1 : s.length ≤ 9223372036854775807) (h2 : l.length ≤ 9223372036854775807) (w : World) :
    Calls Try.prog 27 #[.agg #[.int .i64 k, .int .i64 i, .string sb, .slice A l.length c]] w fun e w' => e = .returned (.int .u64 ((numT (.node k i s l) : Nat) : Int)) ∧ Below w.heap.size w w' := by
  have hss : sb.size = s.length := by subst hs; simp
  have hsz : sb.size ≤ 9223372036854775807 := by omega
  have HN : Hid (numT (.node k i s l) = if k = 2 then sb.size else if k = 3 then l.length else if i < 0 then 2 * (-(i + 1)).toNat + 1 else 2 * i.toNat) := Lib.hid (by rw [numT, hss])
  obtain ⟨hi1, hi2⟩ := hi
  clear hs hss
  go_enter Try.func27, Try.ntmps27
  go_wp2
  all_goals go_ret
  all_goals refine ⟨ret_u64 ?_, below_new _ _⟩
  all_goals rw [HN.out]
  all_goals
    simp only [beq_iff_eq, beq_eq_false_iff_ne, ne_eq] at *
    repeat' split
  all_goals omega


theorem Byt.at_ {w : World} {base : Nat} {A : Option Addr} {c : Nat} {l : List UInt8} (h : Byt w base (.slice A l.length c) l) :
    BytAt w w.heap.size A l ∧ l.length ≤ c ∧ c ≤ 9223372036854775807 ∧ (A = none → c = 0) := by
  have hb := h
  rcases h.2 with ⟨e1, e2⟩ | ⟨g, cap, cur, e1, hbg, hgg, h1, h2, _⟩
  · injection e1 with e1 e3 e4
    subst e1 e4
    exact ⟨.inl (List.eq_nil_of_length_eq_zero e2), by omega, by omega, fun _ => rfl⟩
  · injection e1 with e1 e3 e4
    subst e1 e4
    obtain ⟨g', hg, _, hlt, _, hc⟩ := hb.cells
    injection hg with hg
    subst hg
    refine ⟨.inr ⟨g, 0, rfl, hlt, fun j hj => by rw [Nat.zero_add]; exact hc j hj⟩, h1, by unfold maxLen at h2; omega, fun h => (by cases h)⟩
/-- an integer as a tree -/
def intT (n : Int) : T := .node 1 n [] []
theorem int_val (n : Int) : valT 64 (intT n) = true := by simp [intT, valT, valL, ownB]
theorem int_sh (n : Int) : shT (intT n) = true := by simp [intT, shT, shL]
theorem int_lies (w : World) {n : Int} (h : I64 n) : Lies w (fun _ => True) (intT n) (.agg #[.int .i64 1, .int .i64 n, .string ⟨#[]⟩, .slice none 0 0]) :=
  Lies.mk rfl ⟨by omega, by omega⟩ h (by simp) (by simp) (.inl rfl) (fun _ => rfl)
theorem int_bd {n : Int} (h : I64 n) : bdT (intT n) := by simp only [intT, bdT, bdL, List.length_nil]; exact ⟨h, by omega, by omega, trivial⟩
theorem int_enc (n : Int) : enc (intT n) = headL 1 (numT (intT n)) := by simp [intT, enc, encs]
theorem head_len {k n : Nat} (h : n < 18446744073709551616) : (headL k n).length ≤ 9 := by
  unfold headL
  split
  · simp
  · simp only [List.length_cons, be_len]; have := nb8 h; omega
theorem head_mono {k m n : Nat} (h : m ≤ n) : (headL k m).length ≤ (headL k n).length := by
  unfold headL
  split
  · split
    · exact Nat.le_refl _
    · simp
  · rw [if_neg (by omega)]; simp only [List.length_cons, be_len]; have := nb_mono h; omega
/-- what is encoded is decoded -/
theorem dec_enc {t : T} (hv : valT 64 t = true) (hb : bdT t) (hl : (enc t).length ≤ 1048576) : decV (enc t) = some t := by
  unfold decV
  rw [if_neg (by omega)]
  have := rd_enc 64 t hv hb []
  rw [List.append_nil] at this
  rw [this]
end Go.Proofs.Ytiababmfalnflaa.Cod
