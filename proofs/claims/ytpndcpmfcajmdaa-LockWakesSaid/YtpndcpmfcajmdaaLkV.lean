import Derived.Test.YtpndcpmfcajmdaaLkU
/- Locks, pure: whom a release wakes. -/
namespace Go.Proofs.Ytpndcpmfcajmdaa.Lock
open Go.ChangeShapes Go.WideShapes Go.ChangeAt Go.RowKit Go.IntWalk Go.Proofs.Mem Law Go.Shelf Go.Proofs.Each
set_option linter.unusedVariables false
set_option linter.unusedSimpArgs false
/-- what x waits for -/
def whd (T : Tb) (x : Int) : Hd := (T.wt x).getD zHd
theorem no_holds {T T' : Tb} {t : Int} {got : List Int} {ks : List Ky} (h : RelOut T t T' got) (ho : OfL T' t ks) : hlist T' t ks = [] := by
  rw [List.eq_nil_iff_forall_not_mem]
  intro x hx
  obtain ⟨k, m, _, h2⟩ := (hlist_mem ho x).1 hx
  rw [h.hold k] at h2
  cases h2
theorem rel_self {T T' : Tb} {t : Int} {got : List Int} (h : RelOut T t T' got) : (T'.wt t).isSome = false ∧ decide (t ∈ got) = false := by
  refine ⟨?_, decide_eq_false h.own⟩
  rw [h.wt, if_neg h.own, if_pos rfl]
  rfl
theorem rel_woke {T T' : Tb} {t x : Int} {got : List Int} (hi : Inv T) (h : RelOut T t T' got) (hx : x ∈ got) : (T'.wt x).isSome = false ∧ (whd T x).m ≠ 0 ∧ ((T'.ent ⟨(whd T x).k, (whd T x).a, (whd T x).b⟩).hv x).getD 0 = (whd T x).m := by
  obtain ⟨k, m, h1, h2⟩ := h.woke x hx
  have h3 : T.wt x = some (hdOf k m) := (hi.wt x _).2 ⟨k, m, rfl, h1⟩
  have h4 : whd T x = hdOf k m := by unfold whd; rw [h3]; rfl
  refine ⟨by rw [h.wt, if_pos hx]; rfl, ?_, ?_⟩
  · rw [h4]
    rcases hi.ml k _ h1 with e | e <;> (change m = _ at e; subst e; show (_ : Int) ≠ 0; simp [hdOf])
  · rw [h4]
    show ((T'.ent k).hv x).getD 0 = m
    rw [h2]; rfl
theorem rel_else {T T' : Tb} {t x : Int} {got : List Int} (h : RelOut T t T' got) (h1 : x ≠ t) (h2 : x ∉ got) : whd T' x = whd T x := by
  unfold whd
  rw [h.wt, if_neg h2, if_neg h1]
/-- a hold in a block of its own, written field by field -/
theorem box_put (w : World) (x : Hd) (r : Nat) (hr : w.heap.size = r) : ∃ w', ((((w.alloc (.cells #[.int .u8 0, .int .u32 0, .int .u32 0, .int .u8 0] 45)).setCell ⟨r, 0, none⟩ (.int .u8 x.k)).setCell ⟨r, 1, none⟩ (.int .u32 x.a)).setCell ⟨r, 2, none⟩ (.int .u32 x.b)).setCell ⟨r, 3, none⟩ (.int .u8 x.m) = w' ∧ Box w' r #[.int .u8 x.k, .int .u32 x.a, .int .u32 x.b, .int .u8 x.m] 45 ∧ Below w.heap.size w w' := by
  refine ⟨_, rfl, ?_, ?_⟩
  · have X4 := Box.new w #[.int .u8 0, .int .u32 0, .int .u32 0, .int .u8 0] 45
    rw [hr] at X4
    exact Box.set_ (Box.set_ (Box.set_ (Box.set_ X4 0 (.int .u8 x.k)) 1 (.int .u32 x.a)) 2 (.int .u32 x.b)) 3 (.int .u8 x.m)
  · have b1 := new_ (Below.refl w.heap.size w) (.cells #[.int .u8 0, .int .u32 0, .int .u32 0, .int .u8 0] 45)
    rw [hr] at b1 ⊢
    exact (((b1.setCell (p := ⟨r, 0, none⟩) (Nat.le_refl _) (.int .u8 x.k)).setCell (p := ⟨r, 1, none⟩) (Nat.le_refl _) (.int .u32 x.a)).setCell (p := ⟨r, 2, none⟩) (Nat.le_refl _) (.int .u32 x.b)).setCell (p := ⟨r, 3, none⟩) (Nat.le_refl _) (.int .u8 x.m)
end Go.Proofs.Ytpndcpmfcajmdaa.Lock
