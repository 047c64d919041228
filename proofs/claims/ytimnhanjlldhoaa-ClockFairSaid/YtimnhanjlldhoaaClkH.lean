import Derived.Test.YtimnhanjlldhoaaClkB
/- A call on both clocks: Pick. -/
namespace Go.Proofs.Ytimnhanjlldhoaa.Clk
open Go.ChangeShapes Go.WideShapes Go.ChangeAt Go.RowKit Go.IntWalk Go.Proofs.Mem Go.Proofs.Clk
set_option linter.unusedVariables false

theorem two_picks (l m : List Fm) (h k : Nat) (hh : h < l.length) (hk : k < m.length) : ∃ r1 r2, PickR l h r1 ∧ PickR m k r2 ∧ (l = m → h = k → r1 = r2) := by
  obtain ⟨r1, p1⟩ := pick_ends l h hh
  by_cases e : l = m ∧ h = k
  · obtain ⟨rfl, rfl⟩ := e
    exact ⟨r1, r1, p1, p1, fun _ _ => rfl⟩
  · obtain ⟨r2, p2⟩ := pick_ends m k hk
    exact ⟨r1, r2, p1, p2, fun a b => absurd ⟨a, b⟩ e⟩
theorem PickR.keeps {l : List Fm} {h : Nat} {r : Int × Bool × List Fm × Nat} (hr : PickR l h r) (hh : h < l.length) : r.2.2.1.length = l.length ∧ r.2.2.2 < l.length ∧ ∀ B : Int, 0 ≤ B → Oks B l → Oks B r.2.2.1 := by
  rcases hr with ⟨i, hi, a, b, rfl⟩ | ⟨nf, ⟨nl, rfl⟩ | ⟨a, k, x, l', h', hs, rfl⟩⟩
  · exact ⟨rfl, hh, fun _ _ ho => ho⟩
  · exact ⟨rfl, hh, fun _ _ ho => ho⟩
  · obtain ⟨_, b, c, _⟩ := sw_keeps (B := 0) k l h _ hh hs
    exact ⟨b, c, fun B hB ho => (sw_keeps (B := B) k l h _ hh hs).2.2.2 ho hB⟩
def DS (g gf r ra rb rc : Nat) (x : Nat) : Prop := (x = g ∨ x = gf) ∨ (x = r ∨ x = ra ∨ x = rb ∨ x = rc)
/-- what a call on both leaves -/
def DoesP (B : Int) (g gf h r ra rb rc k : Nat) (l m : List Fm) (w : World) (e : Ending) (w' : World) : Prop :=
  ∃ (q : Bool) (l' : List Fm) (h' : Nat) (m' : List Fm) (k' : Nat), e = .returned (.bool q) ∧ Two w' g gf l' h' r ra rb rc m' k' ∧ Fr (DS g gf r ra rb rc) w w' ∧
    l'.length = l.length ∧ m'.length = m.length ∧ h' < l.length ∧ k' < m.length ∧ Oks (B + 1) l' ∧ Oks (B + 1) m' ∧ (l = m → h = k → q = true ∧ l' = m' ∧ h' = k')
set_option maxRecDepth 100000 in
set_option maxHeartbeats 8000000 in
theorem does_pick (w : World) (g gf h r ra rb rc k : Nat) (l m : List Fm) (B : Int) (t : Two w g gf l h r ra rb rc m k) (hl : l.length ≤ 64) (hm : m.length ≤ 64) (hh : h < l.length) (hkm : k < m.length) (ho : Oks B l) (hp : Oks B m) (hB : 0 ≤ B ∧ B ≤ 100000) (i kd : Int) (h0 : 0 ≤ kd ∧ kd ≤ 255) (hk : kd.tmod 8 = 6) :
    Calls Try.prog 10 #[.pointer (some ⟨g, 0, none⟩), .pointer (some ⟨r, 0, none⟩), .agg #[.int .u8 kd, .int .i64 i]] w (DoesP B g gf h r ra rb rc k l m w) := by
  have T := Lib.hid t
  have b0 := Box.new w #[.int .u8 kd, .int .i64 i] 30
  clear t
  have HO := Lib.hid ho
  have HP := Lib.hid hp
  have HB := Lib.hid hB
  obtain ⟨r1, r2, p1, p2, he⟩ := two_picks l m h k hh hkm
  have K1 := Lib.hid (p1.keeps hh)
  have K2 := Lib.hid (p2.keeps hkm)
  have P1 := Lib.hid p1
  have P2 := Lib.hid p2
  have HE := Lib.hid he
  clear ho hp hB p1 p2 he
  obtain ⟨x, b, l1, h1⟩ := r1
  obtain ⟨y, b2, m1, k1⟩ := r2
  have T1 := Lib.hid (T.out.later (new_ (Below.refl w.heap.size w) (.cells #[.int .u8 kd, .int .i64 i] 30)))
  have B1 := Lib.hid b0
  have hg : (w.heap.size ≠ g ∧ w.heap.size ≠ gf) ∧ (w.heap.size ≠ r ∧ w.heap.size ≠ ra ∧ w.heap.size ≠ rb ∧ w.heap.size ≠ rc) :=
    ⟨⟨by have := T.out.c.top.lt; omega, by have := T.out.c.fs.lt; omega⟩, by have := T.out.d.top.lt; omega, by have := T.out.d.ts.lt; omega, by have := T.out.d.us.lt; omega, by have := T.out.d.ps.lt; omega⟩
  have HG := Lib.hid hg
  have hf0 := (Fr.refl (DS g gf r ra rb rc) w).alloc (.cells #[.int .u8 kd, .int .i64 i] 30)
  have F0 := Lib.hid hf0
  clear hf0 hg b0
  go_enter Try.func10, Try.ntmps10
  go_wp2_with fail
  (with_reducible refine (pick_any _ g gf h l T1.out.c hl hh _ P1.out).mono ?_)
  rintro e w1 ⟨rfl, c1, f1⟩
  have b1 := B1.out.fr f1 (by rintro (e | e); exact HG.out.1.1 e; exact HG.out.1.2 e)
  have x1 : w1.cell? ⟨w.heap.size, 0, none⟩ = some (.int .u8 kd) := b1.cell 0
  have T2 := Lib.hid (T1.out.left c1 f1)
  have F1 := Lib.hid (F0.out.trans' f1 (fun _ _ x => .inl x))
  have B2 := Lib.hid b1
  clear c1 f1 b1
  go_wp2_with fail
  (with_reducible refine (pick_ref _ r ra rb rc k m B T2.out.d hm hkm HP.out HB.out.1 _ P2.out).mono ?_)
  rintro e w2 ⟨rfl, d2, f2⟩
  have b2' := B2.out.fr f2 (by rintro (e | e | e | e); exact HG.out.2.1 e; exact HG.out.2.2.1 e; exact HG.out.2.2.2.1 e; exact HG.out.2.2.2.2 e)
  have x2 : w2.cell? ⟨w.heap.size, 0, none⟩ = some (.int .u8 kd) := b2'.cell 0
  have T3 := Lib.hid (T2.out.right d2 f2)
  have F2 := Lib.hid (F1.out.trans' f2 (fun _ _ x => .inr x))
  clear d2 f2 b2'
  dsimp only at T3
  go_wp2
  all_goals go_ret
  all_goals refine ⟨_, l1, h1, m1, k1, rfl, T3.out, F2.out, K1.out.1, K2.out.1, K1.out.2.1, K2.out.2.1, (K1.out.2.2 B HB.out.1 HO.out).mono (by omega), (K2.out.2.2 B HB.out.1 HP.out).mono (by omega), fun e1 e2 => ?_⟩
  all_goals have e3 := HE.out e1 e2
  all_goals injection e3 with e3 e4
  all_goals injection e4 with e4 e5
  all_goals injection e5 with e5 e6
  all_goals refine ⟨?_, e5, e6⟩
  all_goals simp_all
end Go.Proofs.Ytimnhanjlldhoaa.Clk
