import Derived.Test.YtbbphfhkedldmaaRecF
import Derived.Test.YtbbphfhkedldmaaSsIn
import Derived.Test.YtbbphfhkedldmaaSrOpen
/- Changes and records that came in. -/
namespace Go.Proofs.Ytbbphfhkedldmaa.Rec
open Go.ChangeShapes Go.WideShapes Go.ChangeAt Go.RowKit Go.IntWalk Go.Proofs.NumMath Go.Proofs.Mem NumBytes Law
set_option linter.unusedVariables false
theorem c8 : Try.prog.cellsOf 5 = 1 := by kernel_rfl
theorem c16 : Try.prog.cellsOf 24 = 1 := by kernel_rfl
theorem c32 : Try.prog.cellsOf 22 = 1 := by kernel_rfl
theorem c64 : Try.prog.cellsOf 23 = 1 := by kernel_rfl
theorem cb : Try.prog.cellsOf 4 = 1 := by kernel_rfl
theorem csl : Try.prog.cellsOf 25 = 1 := by kernel_rfl
theorem csa : Try.prog.cellsOf 28 = 1 := by kernel_rfl
theorem csd : Try.prog.cellsOf 29 = 1 := by kernel_rfl
theorem cAc_ : Try.prog.cellsOf 64 = 4 := by kernel_rfl
theorem cDt_ : Try.prog.cellsOf 66 = 2 := by kernel_rfl
theorem cCg : Try.prog.cellsOf 27 = 6 := by kernel_rfl
theorem cRc : Try.prog.cellsOf 31 = 12 := by kernel_rfl
section
variable {H : Type} {enc : TypeId × Value → H} {W : World}
theorem list6 {l : List Value} (h : l.length = 6) : ∃ a b c d e f, l = [a, b, c, d, e, f] := by
  match l, h with
  | [a, b, c, d, e, f], _ => exact ⟨a, b, c, d, e, f, rfl⟩
theorem list12 {l : List Value} (h : l.length = 12) : ∃ a b c d e f g i j k m n, l = [a, b, c, d, e, f, g, i, j, k, m, n] := by
  match l, h with
  | [a, b, c, d, e, f, g, i, j, k, m, n], _ => exact ⟨a, b, c, d, e, f, g, i, j, k, m, n, rfl⟩
theorem some_eq {α : Type} {o : Option α} (h : o.isSome = true) : ∃ y, o = some y := by cases o with | none => cases h | some y => exact ⟨y, rfl⟩
theorem open_cells {n : Nat} {a0 a1 a2 a3 a4 a5 : Value} {y : DataW H × List MemPlace} (hf : DataW.trod enc Try.prog W 0 (fun _ => true) true n 27 [a0, a1, a2, a3, a4, a5] = some y) :
    ∃ (c : Cg) (a b : Value), a0 = .int .u32 c.pg ∧ a1 = .int .u16 c.sl ∧ a2 = .bool c.had ∧ a3 = .bool c.has ∧ a4 = a ∧ a5 = b ∧ c.Ok ∧ IR W W.heap.size .u8 a c.xs ∧ IR W W.heap.size .u8 b c.ys := by
  obtain ⟨xs, m, _, _, _, hl, hg⟩ := DataW.trod_struct Try.underlying27 hf
  have h0 := hg 0 _ rfl
  have h1 := hg 1 _ rfl
  have h2 := hg 2 _ rfl
  have h3 := hg 3 _ rfl
  have h4 := hg 4 _ rfl
  have h5 := hg 5 _ rfl
  simp [c16, c32, cb, csl] at h0 h1 h2 h3 h4 h5 hl
  obtain ⟨x0, rfl, w0⟩ := one_int' Try.underlying22 h0 (some_at' (by omega))
  obtain ⟨x1, rfl, w1⟩ := one_int' Try.underlying24 h1 (some_at' (by omega))
  obtain ⟨x2, rfl⟩ := one_bool' Try.underlying4 h2 (some_at' (by omega))
  obtain ⟨x3, rfl⟩ := one_bool' Try.underlying4 h3 (some_at' (by omega))
  obtain ⟨y4, e4⟩ := some_eq (some_at' (l := xs) (i := 4) (by omega))
  obtain ⟨y5, e5⟩ := some_eq (some_at' (l := xs) (i := 5) (by omega))
  obtain ⟨zs, i4, b4⟩ := SrOpen.inner (h4.trans e4)
  obtain ⟨us, i5, b5⟩ := SrOpen.inner (h5.trans e5)
  exact ⟨⟨x0, x1, x2, x3, zs, us⟩, _, _, rfl, rfl, rfl, rfl, rfl, rfl, ⟨bounds_u32 w0, bounds_u16 w1, b4, b5⟩, i4, i5⟩
theorem open_cg {r : Reach} {b0 : Nat} {v : Value} {d : DataW H} {p : List MemPlace} (hv : Value.okWide Try.prog W r b0 27 v) (h : DataW.Trod enc Try.prog W 0 (fun _ => true) true 27 v d p) :
    ∃ (c : Cg) (a b : Value), v = .agg (cgC c.pg c.sl c.had c.has a b) ∧ c.Ok ∧ IR W W.heap.size .u8 a c.xs ∧ IR W W.heap.size .u8 b c.ys := by
  obtain ⟨cs, rfl, hsz⟩ := okWide_struct Try.underlying27 hv
  obtain ⟨l⟩ := cs
  obtain ⟨a0, a1, a2, a3, a4, a5, rfl⟩ := list6 (hsz.trans cCg)
  obtain ⟨fuel, hf⟩ := h
  obtain ⟨c, a, b, rfl, rfl, rfl, rfl, rfl, rfl, ok, ha, hb⟩ := open_cells hf
  exact ⟨c, _, _, rfl, ok, ha, hb⟩
theorem ac_of {n : Nat} {cs : List Value} {y : DataW H × List MemPlace} (hl : cs.length = 4) (hf : DataW.trod enc Try.prog W 0 (fun _ => true) true n 64 cs = some y) : ∃ x, cs = cAc x ∧ x.Ok := by
  match cs, hl with
  | [a0, a1, a2, a3], _ =>
    obtain ⟨xs, m, _, _, _, hl, hg⟩ := DataW.trod_struct Try.underlying64 hf
    have h0 := hg 0 _ rfl
    have h1 := hg 1 _ rfl
    have h2 := hg 2 _ rfl
    have h3 := hg 3 _ rfl
    simp [c8, c32, c64] at h0 h1 h2 h3 hl
    obtain ⟨x0, rfl, w0⟩ := one_int' Try.underlying22 h0 (some_at' (by omega))
    obtain ⟨x1, rfl, w1⟩ := one_int' Try.underlying23 h1 (some_at' (by omega))
    obtain ⟨x2, rfl, w2⟩ := one_int' Try.underlying23 h2 (some_at' (by omega))
    obtain ⟨x3, rfl, w3⟩ := one_int' Try.underlying5 h3 (some_at' (by omega))
    exact ⟨⟨x0, x1, x2, x3⟩, rfl, bounds_u32 w0, bounds_u64 w1, bounds_u64 w2, bounds_u8 w3⟩
theorem dt_of {n : Nat} {cs : List Value} {y : DataW H × List MemPlace} (hl : cs.length = 2) (hf : DataW.trod enc Try.prog W 0 (fun _ => true) true n 66 cs = some y) : ∃ x, cs = cDt x ∧ x.Ok := by
  match cs, hl with
  | [a0, a1], _ =>
    obtain ⟨xs, m, _, _, _, hl, hg⟩ := DataW.trod_struct Try.underlying66 hf
    have h0 := hg 0 _ rfl
    have h1 := hg 1 _ rfl
    simp [c32, c64] at h0 h1 hl
    obtain ⟨x0, rfl, w0⟩ := one_int' Try.underlying22 h0 (some_at' (by omega))
    obtain ⟨x1, rfl, w1⟩ := one_int' Try.underlying23 h1 (some_at' (by omega))
    exact ⟨⟨x0, x1⟩, rfl, bounds_u32 w0, bounds_u64 w1⟩
theorem open_rc {r : Reach} {b0 : Nat} {v : Value} {d : DataW H} {p : List MemPlace} (hv : Value.okWide Try.prog W r b0 31 v) (h : DataW.Trod enc Try.prog W 0 (fun _ => true) true 31 v d p) :
    ∃ (q : Rc) (a b ta da : Value), v = .agg (rcV q a b ta da) ∧ q.Ok ∧ RcIn W W.heap.size q a b ta da := by
  obtain ⟨cs, rfl, hsz⟩ := okWide_struct Try.underlying31 hv
  obtain ⟨l⟩ := cs
  obtain ⟨a0, a1, a2, a3, a4, a5, a6, a7, a8, a9, a10, a11, rfl⟩ := list12 (hsz.trans cRc)
  obtain ⟨fuel, hf⟩ := h
  obtain ⟨xs, m, _, _, _, hl, hg⟩ := DataW.trod_struct Try.underlying31 hf
  have h0 := hg 0 _ rfl
  have h1 := hg 1 _ rfl
  have h2 := hg 2 _ rfl
  have h3 := hg 3 _ rfl
  have h4 := hg 4 _ rfl
  have h5 := hg 5 _ rfl
  have h6 := hg 6 _ rfl
  simp [c8, c32, c64, cCg, csa, csd, Value.cells] at h0 h1 h2 h3 h4 h5 h6 hl
  obtain ⟨x0, rfl, w0⟩ := one_int' Try.underlying5 h0 (some_at' (by omega))
  obtain ⟨x1, rfl, w1⟩ := one_int' Try.underlying22 h1 (some_at' (by omega))
  obtain ⟨x2, rfl, w2⟩ := one_int' Try.underlying23 h2 (some_at' (by omega))
  obtain ⟨x3, rfl, w3⟩ := one_int' Try.underlying23 h3 (some_at' (by omega))
  obtain ⟨y4, e4⟩ := some_eq (some_at' (l := xs) (i := 4) (by omega))
  obtain ⟨y5, e5⟩ := some_eq (some_at' (l := xs) (i := 5) (by omega))
  obtain ⟨y6, e6⟩ := some_eq (some_at' (l := xs) (i := 6) (by omega))
  obtain ⟨c, a, b, rfl, rfl, rfl, rfl, rfl, rfl, ok, ha, hb⟩ := open_cells (h4.trans e4)
  obtain ⟨ts, ht, qt⟩ := inner_SS cAc Ac.Ok Try.underlying28 cAc_ (by omega) (fun cs n y hl hy => ac_of hl hy) (h5.trans e5)
  obtain ⟨ds, hd, qd⟩ := inner_SS cDt Dt.Ok Try.underlying29 cDt_ (by omega) (fun cs n y hl hy => dt_of hl hy) (h6.trans e6)
  exact ⟨⟨x0, x1, x2, x3, c, ts, ds⟩, _, _, _, _, rfl, ⟨bounds_u8 w0, bounds_u32 w1, bounds_u64 w2, bounds_u64 w3, ok, qt, qd⟩, ha, hb, ht, hd⟩
end
end Go.Proofs.Ytbbphfhkedldmaa.Rec
