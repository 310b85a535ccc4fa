/- The reference's Number; what an encoding's bytes are to Decode; integers. -/
import Derived.Test.YtohoobgbmhondaaCodDec
import Derived.Test.YtohoobgbmhondaaCodFew
namespace Go.Proofs.Ytohoobgbmhondaa.Cod
open Go Go.RowKit

theorem Byt.at_ {w : World} {base : Nat} {A : Option Addr} {c : Nat} {l : List UInt8} (h : Byt w base (.slice A l.length c) l) :
    BytAt w w.heap.size A l ∧ l.length ≤ c ∧ c ≤ 9223372036854775807 ∧ (A = none → c = 0) := by
  have hb := h
  rcases h.2 with ⟨e1, e2⟩ | ⟨g, cap, cur, e1, hbg, hgg, h1, h2, _⟩
  · injection e1 with e1 e3 e4
    subst e1 e4
    exact ⟨.inl (List.eq_nil_of_length_eq_zero e2), by omega, by omega, fun _ => rfl⟩
  · injection e1 with e1 e3 e4
    subst e1 e4
    obtain ⟨g', hg, _, hlt, _, hc⟩ := hb.cells
    injection hg with hg
    subst hg
    refine ⟨.inr ⟨g, 0, rfl, hlt, fun j hj => by rw [Nat.zero_add]; exact hc j hj⟩, h1, by unfold maxLen at h2; omega, fun h => (by cases h)⟩
/-- an integer as a tree -/
def intT (n : Int) : T := .node 1 n [] []
theorem int_val (n : Int) : valT 64 (intT n) = true := by simp [intT, valT, valL, ownB]
theorem int_sh (n : Int) : shT (intT n) = true := by simp [intT, shT, shL]
theorem int_lies (w : World) {n : Int} (h : I64 n) : Lies w (fun _ => True) (intT n) (.agg #[.int .i64 1, .int .i64 n, .string ⟨#[]⟩, .slice none 0 0]) :=
  Lies.mk rfl ⟨by omega, by omega⟩ h (by simp) (by simp) (.inl rfl) (fun _ => rfl)
theorem int_bd {n : Int} (h : I64 n) : bdT (intT n) := by simp only [intT, bdT, bdL, List.length_nil]; exact ⟨h, by omega, by omega, trivial⟩
theorem int_enc (n : Int) : enc (intT n) = headL 1 (numT (intT n)) := by simp [intT, enc, encs]
theorem head_len {k n : Nat} (h : n < 18446744073709551616) : (headL k n).length ≤ 9 := by
  unfold headL
  split
  · simp
  · simp only [List.length_cons, be_len]; have := nb8 h; omega
theorem head_mono {k m n : Nat} (h : m ≤ n) : (headL k m).length ≤ (headL k n).length := by
  unfold headL
  split
  · split
    · exact Nat.le_refl _
    · simp
  · rw [if_neg (by omega)]; simp only [List.length_cons, be_len]; have := nb_mono h; omega
/-- what is encoded is decoded -/
theorem dec_enc {t : T} (hv : valT 64 t = true) (hb : bdT t) (hl : (enc t).length ≤ 1048576) : decV (enc t) = some t := by
  unfold decV
  rw [if_neg (by omega)]
  have := rd_enc 64 t hv hb []
  rw [List.append_nil] at this
  rw [this]
end Go.Proofs.Ytohoobgbmhondaa.Cod
