/- Fonts of package api: what layer 5 says of them, as functions on plain data. -/
import Derived.Test.YtjhpajdkklklhaaRows
namespace Go.Proofs.Ytjhpajdkklklhaa.Fon

structure Gl where
  name : ByteArray
  W : Int
  H : Int
  D : Int
  I : Int
  A : Int
structure Pa where
  name : ByteArray
  ext : Bool
structure St where
  name : ByteArray
  sizes : List ByteArray
  parts : List Pa
  ov : Int
def I64 (n : Int) : Prop := -9223372036854775808 ≤ n ∧ n ≤ 9223372036854775807
def within (n a b : Int) : Bool := decide (a ≤ n) && decide (n ≤ b)
/-- n p / 100, rounded half away from zero -/
def scl (n p : Int) : Int := if n < 0 then -((2 * -n * p + 100) / 200) else (2 * n * p + 100) / 200
theorem mul_bd {n p : Int} (h0 : 0 ≤ n) (h1 : n ≤ 20000) (p0 : 1 ≤ p) (p1 : p ≤ 1000) : 0 ≤ 2 * n * p ∧ 2 * n * p ≤ 40000000 := by
  have h2 : 0 ≤ n * p := Int.mul_nonneg h0 (by omega)
  have h3 : n * p ≤ 20000 * 1000 := Int.mul_le_mul h1 p1 (by omega) (by omega)
  rw [Int.mul_assoc]
  omega
theorem scl_neg {n p : Int} (h : n < 0) : scl n p = -scl (-n) p := by
  unfold scl
  rw [if_pos h, if_neg (by omega)]
theorem scl_pos {n p : Int} (h : 0 ≤ n) : scl n p = (2 * n * p + 100) / 200 := by
  unfold scl
  rw [if_neg (by omega)]
theorem scl_bd {n p : Int} (h0 : -20000 ≤ n) (h1 : n ≤ 20000) (p0 : 1 ≤ p) (p1 : p ≤ 1000) : -200001 ≤ scl n p ∧ scl n p ≤ 200001 := by
  by_cases h : n < 0
  · rw [scl_neg h, scl_pos (by omega)]
    have := mul_bd (n := -n) (by omega) (by omega) p0 p1
    omega
  · rw [scl_pos (by omega)]
    have := mul_bd (n := n) (by omega) (by omega) p0 p1
    omega
def mets (g : Gl) : List Int := [g.W, g.H, g.D, g.I, g.A]
def metB (g : Gl) : Bool := (mets g).all fun n => within n (-20000) 20000
def metP (g : Gl) : Prop := (-20000 ≤ g.W ∧ g.W ≤ 20000) ∧ (-20000 ≤ g.H ∧ g.H ≤ 20000) ∧ (-20000 ≤ g.D ∧ g.D ≤ 20000) ∧ (-20000 ≤ g.I ∧ g.I ≤ 20000) ∧ (-20000 ≤ g.A ∧ g.A ≤ 20000)
theorem within_iff {n a b : Int} : within n a b = true ↔ a ≤ n ∧ n ≤ b := by unfold within; simp
theorem met_iff (g : Gl) : metB g = true ↔ metP g := by
  unfold metB mets metP
  simp [within_iff]
def sclG (g : Gl) (p : Int) : Gl := { name := g.name, W := scl g.W p, H := scl g.H p, D := scl g.D p, I := scl g.I p, A := scl g.A p }
def zeroG : Gl := { name := ⟨#[]⟩, W := 0, H := 0, D := 0, I := 0, A := 0 }
/-- Scaled: the glyph and the error -/
def scaled (g : Gl) (p : Int) : Gl × Int := if within p 1 1000 = false then (zeroG, 2) else if metB g = false then (zeroG, 1) else (sclG g p, 0)
def findG (l : List Gl) (n : ByteArray) : Option Gl := l.find? fun g => g.name.toList == n.toList
def findS (l : List St) (n : ByteArray) : Option St := l.find? fun s => s.name.toList == n.toList
def nameB (s : ByteArray) : Bool := (s.data.toList.all fun c => decide (32 ≤ c.toNat) && decide (c.toNat ≤ 126)) && decide (1 ≤ s.size) && decide (s.size ≤ 16)
/-- the glyph with this index is as required -/
def glOK (l : List Gl) (k : Nat) : Bool := match l[k]? with
  | none => true
  | some g => nameB g.name && metB g && decide (0 ≤ g.W) && !((l.take k).any fun x => x.name.toList == g.name.toList)
/-- the glyphs of a font are as required -/
def glyphsB (l : List Gl) : Bool := (List.range l.length).all (glOK l)
def height (g : Gl) : Int := g.H + g.D
def nth (l : List ByteArray) (k : Nat) : ByteArray := l[k]?.getD ⟨#[]⟩
def hgt (gs : List Gl) (n : ByteArray) : Int := match findG gs n with
  | some g => height g
  | none => 0
def szOK (gs : List Gl) (l : List ByteArray) (k : Nat) : Bool := (findG gs (nth l k)).isSome && (decide (k = 0) || decide (hgt gs (nth l (k - 1)) < hgt gs (nth l k)))
def sizesB (gs : List Gl) (l : List ByteArray) : Bool := (List.range l.length).all (szOK gs l)
def paOK (gs : List Gl) (ov : Int) (p : Pa) : Bool := (findG gs p.name).isSome && decide (ov < hgt gs p.name)
def stretchB (gs : List Gl) (s : St) : Bool :=
  nameB s.name && decide (1 ≤ s.sizes.length) && decide (s.sizes.length ≤ 16) && decide (s.parts.length ≤ 8) && sizesB gs s.sizes &&
    (if s.parts.length = 0 then s.ov == 0 else s.parts.all (paOK gs s.ov) && (s.parts.any fun p => p.ext) && decide (0 ≤ s.ov))
def stOK (gs : List Gl) (l : List St) (k : Nat) : Bool := match l[k]? with
  | none => true
  | some s => stretchB gs s && !((l.take k).any fun x => x.name.toList == s.name.toList)
def stretchesB (gs : List Gl) (l : List St) : Bool := (List.range l.length).all (stOK gs l)
/-- the parameters: the three in percent have the places 15, 16, 17 -/
def paramsB (ps : List Int) : Bool := (((ps.take 15) ++ (ps.drop 18)).all fun n => within n 0 20000) && (((ps.drop 15).take 3).all fun n => within n 1 100)
def validB (gs : List Gl) (ss : List St) (ps : List Int) : Bool :=
  decide (gs.length ≤ 400) && decide (ss.length ≤ 40) && paramsB ps && glyphsB gs && stretchesB gs ss
def fewB (gs : List Gl) (ss : List St) : Bool := decide (gs.length ≤ 500) && decide (ss.length ≤ 50) && ss.all fun s => decide (s.sizes.length ≤ 50) && decide (s.parts.length ≤ 50)
def pick (gs : List Gl) (n : ByteArray) : Gl := match findG gs n with
  | some g => g
  | none => match findG gs ⟨#[63]⟩ with
    | some g => g
    | none => { zeroG with name := n }
end Go.Proofs.Ytjhpajdkklklhaa.Fon
