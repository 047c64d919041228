import Derived.Test.YtplombkpefacgaaTab
/- A device: two files of sectors, each with what lasts and what waits; every row in a block of its own, told apart by colours. -/
namespace Go.Proofs.Ytplombkpefacgaa.Disk
open Go.RowKit Go.WideShapes Go.Proofs.Mem
set_option linter.unusedVariables false
/-- a sector -/
structure Se where
  last : List Int
  wait : List (List Int)
/-- a device -/
structure Dv where
  f : Nat → List Se
  lim : Bool
  left : Int
  dead : Bool
/-- an owned row whose block has a colour -/
def Hd (w : World) (col : Nat → Nat) (k : Nat) (e : TypeId) (size : Nat) (v : Value) (n : Nat) (xs : List Value) : Prop := w.ownsRow 0 e size v n xs ∧ ∀ g, v.ownBlock = some g → col g = k
section
variable {w w' : World} {col col' : Nat → Nat} {k n size : Nat} {e : TypeId} {v : Value} {xs : List Value} {S : Nat → Prop}
theorem own_frS {base : Nat} (h : w.ownsRow base e size v n xs) (hf : Fr S w w') (hs : ∀ k, v.ownBlock = some k → ¬ S k) : w'.ownsRow base e size v n xs := by
  refine ⟨h.1, ?_⟩
  rcases h.2 with hn | ⟨g, cap, cur, rfl, hb, hgg, rest⟩
  · exact .inl hn
  · exact .inr ⟨g, cap, cur, rfl, hb, (hf.block g (Array.getElem?_eq_some_iff.1 hgg).1 (hs g rfl)).trans hgg, rest⟩
theorem Hd.fr (h : Hd w col k e size v n xs) (hf : Fr S w w') (hs : ∀ g, g < w.heap.size → S g → col g ≠ k) (hc : ∀ g, g < w.heap.size → col' g = col g) : Hd w' col' k e size v n xs :=
  ⟨own_frS h.1 hf (fun g hg hS => hs g (h.1.lt g hg).2 hS (h.2 g hg)), fun g hg => by rw [hc g (h.1.lt g hg).2]; exact h.2 g hg⟩
theorem Hd.nil (w : World) (col : Nat → Nat) (k : Nat) (e : TypeId) (size : Nat) : Hd w col k e size (.slice none 0 0) 0 [] := ⟨World.ownsRow_nil _ _ _ _, fun g hg => by cases hg⟩
end
/-- a sector's two cells: what lasts at u, what waits at v: vs are its rows -/
structure SeAt (w : World) (col : Nat → Nat) (k : Nat) (s : Se) (u v : Value) (vs : List Value) : Prop where
  len : s.last.length = 128
  lens : ∀ x ∈ s.wait, x.length = 128
  byt : Bytes s.last
  byts : ∀ x ∈ s.wait, Bytes x
  last : Hd w col k 5 1 u 128 (s.last.map (.int .u8))
  n : vs.length = s.wait.length
  wait : Hd w col k 30 1 v vs.length vs
  row : ∀ (j : Nat) (x : Value) (y : List Int), vs[j]? = some x → s.wait[j]? = some y → Hd w col k 5 1 x 128 (y.map (.int .u8))
  apart : (u :: vs).Pairwise (fun a b => a.ownBlock ≠ b.ownBlock)
section
variable {w w' : World} {col col' : Nat → Nat} {k : Nat} {S : Nat → Prop} {s : Se} {u v : Value} {vs : List Value}
theorem SeAt.fr (h : SeAt w col k s u v vs) (hf : Fr S w w') (hs : ∀ g, g < w.heap.size → S g → col g ≠ k) (hc : ∀ g, g < w.heap.size → col' g = col g) : SeAt w' col' k s u v vs :=
  ⟨h.len, h.lens, h.byt, h.byts, h.last.fr hf hs hc, h.n, h.wait.fr hf hs hc, fun j x y h1 h2 => (h.row j x y h1 h2).fr hf hs hc, h.apart⟩
end
/-- a sector's place: its cells, its rows -/
abbrev Pl := Value × Value × List Value
def cSe (p : Pl) : List Value := [p.1, p.2.1]
/-- a file: v its sectors -/
structure FiAt (tS : TypeId) (w : World) (col : Nat → Nat) (c : Nat) (v : Value) (l : List Se) (uv : List Pl) : Prop where
  n : uv.length = l.length
  row : Hd w col c tS 2 v l.length (uv.flatMap cSe)
  sec : ∀ (i : Nat) (p : Pl) (s : Se), uv[i]? = some p → l[i]? = some s → SeAt w col (c + 1 + i) s p.1 p.2.1 p.2.2
section
variable {tS : TypeId} {w w' : World} {col col' : Nat → Nat} {c : Nat} {S : Nat → Prop} {v : Value} {l : List Se} {uv : List Pl}
theorem FiAt.fr (h : FiAt tS w col c v l uv) (hf : Fr S w w') (hs : ∀ g, g < w.heap.size → S g → col g < c ∨ c + l.length < col g) (hc : ∀ g, g < w.heap.size → col' g = col g) : FiAt tS w' col' c v l uv :=
  ⟨h.n, h.row.fr hf (fun g hg hS => by have := hs g hg hS; omega) hc, fun i p s h1 h2 => (h.sec i p s h1 h2).fr hf (fun g hg hS => by
    have := hs g hg hS
    have := (List.getElem?_eq_some_iff.1 h2).1
    omega) hc⟩
end
/-- the colour of file i's own row; its sectors' colours stand behind it -/
def fc (i : Nat) : Nat := 5000 * i + 1
/-- a device at block b; S its blocks -/
structure DvAt (tS tD : TypeId) (w : World) (S : Nat → Prop) (b : Nat) (D : Dv) (col : Nat → Nat) (fv : Nat → Value) (uv : Nat → List Pl) : Prop where
  box : Box w b #[fv 0, fv 1, .bool D.lim, .int .i64 D.left, .bool D.dead] tD
  here : S b
  bcol : col b = 0
  file : ∀ i, i < 2 → FiAt tS w col (fc i) (fv i) (D.f i) (uv i)
  most : ∀ i, i < 2 → (D.f i).length ≤ 4096
  mine : ∀ g, col g ≠ 0 → S g
  old : ∀ g, S g → g < w.heap.size
  left : 0 ≤ D.left ∧ D.left ≤ 9223372036854775807
section
variable {tS tD : TypeId} {w w' : World} {S T : Nat → Prop} {b : Nat} {D : Dv} {col : Nat → Nat} {fv : Nat → Value} {uv : Nat → List Pl}
/-- what is done elsewhere leaves a device as it is -/
theorem DvAt.far (h : DvAt tS tD w S b D col fv uv) (hf : Fr T w w') (ht : ∀ g, S g → ¬ T g) : DvAt tS tD w' S b D col fv uv :=
  ⟨h.box.fr hf (ht b h.here), h.here, h.bcol, fun i hi => (h.file i hi).fr hf (fun g hg hT => by
      have : col g = 0 := Decidable.byContradiction fun hc => ht g (h.mine g hc) hT
      unfold fc; omega) (fun _ _ => rfl), h.most, h.mine, fun g hg => Nat.lt_of_lt_of_le (h.old g hg) hf.size, h.left⟩
theorem DvAt.later (h : DvAt tS tD w S b D col fv uv) (hb : Below w.heap.size w w') : DvAt tS tD w' S b D col fv uv := h.far (T := fun _ => False) (Fr.of_below hb) (fun _ _ h => h)
end
end Go.Proofs.Ytplombkpefacgaa.Disk
