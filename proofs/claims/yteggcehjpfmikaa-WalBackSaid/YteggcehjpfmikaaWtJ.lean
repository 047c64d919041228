import Derived.Test.YteggcehjpfmikaaWtI
import Derived.Deep.DeepCutAuto
import Derived.Laws.Cover1
namespace Go.Proofs.Yteggcehjpfmikaa.Wal
open Go.ChangeShapes Go.WideShapes Go.ChangeAt Go.RowKit Go.IntWalk Go.Proofs.Mem Go.Proofs.Each Law Go.Proofs.Yteggcehjpfmikaa.Disk Strip Rec
set_option linter.unusedVariables false
set_option linter.unusedSimpArgs false
set_option maxRecDepth 100000
structure OqP (o : Oq) : Prop where
  k : 0 ≤ o.k ∧ o.k ≤ 255
  r : o.r.Ok
  sp : 0 ≤ o.sp ∧ o.sp ≤ 18446744073709551615
  at_ : 0 ≤ o.at_ ∧ o.at_ ≤ 18446744073709551615
theorem OqAt.p {w : World} {B : Nat} {o : Oq} (h : OqAt w B o) : OqP o := ⟨h.k, h.r, h.sp, h.at_⟩
theorem OqAt.more {w : World} {B B' : Nat} {o : Oq} (h : OqAt w B o) (hB : B ≤ B') : OqAt w B' o := ⟨h.k, h.r, ⟨h.i.a.more hB, h.i.b.more hB, h.i.t.more hB, h.i.d.more hB⟩, h.sp, h.at_, h.f.more hB⟩
def ReachN (D0 : Dv) (L0 : Lv) (xl : List Oq) : Nat → Dv → Lv → List Ent → Prop
  | 0, D, L, es => D = D0 ∧ L = L0 ∧ es = []
  | k + 1, D', L', es' => ∃ D L es o, ReachN D0 L0 xl k D L es ∧ xl[k]? = some o ∧ StepR D L es o D' L' es' ∧ D'.dead = false
def hltD (D : Dv) (n : Int) : Dv := { D with lim := true, left := max n 0 }
def D00 (n : Nat) : Dv := newTo (fun k => if k = 0 then n else 0) 2
def D0 (n : Nat) : Dv := hdD (clnD (D00 n) 0 (List.replicate ((D00 n).f 0).length z128)) 0 (Hh.img ⟨1, 0, 1, 0⟩)
def L0 : Lv := ⟨⟨1, 0, 1, 0⟩, 0, [], [], 0⟩
def D1 (n : Nat) (halt : Int) : Dv := if 0 ≤ halt then hltD (D0 n) halt else D0 n
theorem d00_len (n : Nat) : ((D00 n).f 0).length = n := by simp [D00, newTo]
theorem d00_few (n : Nat) : (D00 n).Few 0 := fun k hk s hs => by
  unfold D00 newTo at hs
  dsimp only at hs
  rw [if_pos hk] at hs
  rw [(List.mem_replicate.1 hs).2]; exact Nat.le_refl _
theorem d0_len (n : Nat) : ((D0 n).f 0).length = n := by unfold D0; rw [hdD_lens, clnD_lens, d00_len]
theorem d1_f (n : Nat) (halt : Int) : (D1 n halt).f = (D0 n).f := by unfold D1; split <;> rfl
theorem d1_sz (n : Nat) (halt : Int) : Wal.sz (D1 n halt) = szN n := by unfold Wal.sz szN; rw [d1_f, d0_len]
theorem few_f {D E : Dv} {m : Nat} (h : D.Few m) (e : E.f = D.f) : E.Few m := fun k hk s hs => h k hk s (by rw [← e]; exact hs)
theorem run0_ok (n : Nat) (hn : 18 ≤ n) (hn2 : n ≤ 120) (halt : Int) : RunOk (D1 n halt) L0 [] [] 0 := by
  have hs : 8 ≤ szN n ∧ szN n ≤ 700 := by unfold szN; omega
  refine ⟨rfl, rfl, (fun r hr => by cases hr), by rw [d1_sz]; exact hs, ⟨by decide, by decide, by decide, by decide⟩, by decide, by decide, by decide, by decide, by simp [L0], ⟨0, Nat.le_refl _, rfl⟩, ?_, EsOk.nil _⟩
  refine few_f (D := D0 n) ?_ (d1_f n halt)
  refine (hdD_few _ _ (clnD_few _ _ (d00_few n))).more ?_
  rw [List.length_replicate, d00_len]; omega
theorem reach_ok {n : Nat} (hn : 18 ≤ n) (hn2 : n ≤ 120) {halt : Int} {xl : List Oq} (hx : ∀ o ∈ xl, OqP o) : ∀ (k : Nat) {D : Dv} {L : Lv} {es : List Ent}, k ≤ 50 → ReachN (D1 n halt) L0 xl k D L es → ∃ rs, RunOk D L rs es k
  | 0, D, L, es, hk, h => by obtain ⟨rfl, rfl, rfl⟩ := h; exact ⟨[], run0_ok n hn hn2 halt⟩
  | k + 1, D', L', es', hk, h => by
    obtain ⟨D, L, es, o, h1, h2, h3, _⟩ := h
    obtain ⟨rs, ok⟩ := reach_ok hn hn2 hx k (by omega) h1
    have ho := hx o (List.mem_of_getElem? h2)
    exact ok.step (by omega) ho.r ho.at_ h3
theorem ds_halted {w : World} {S : Nat → Prop} {g : Nat} {fv : Nat → Value} {D : Dv} (h : DX w S g fv D) :
    Calls Try.prog 30 #[.pointer (some ⟨g, 0, none⟩)] w fun e w' => e = .returned (.bool D.dead) ∧ w = w' := by
  obtain ⟨col, uv, h⟩ := h
  exact halted_any w g fv D.lim D.left D.dead h.box
theorem ds_halt {w : World} {S : Nat → Prop} {g : Nat} {fv : Nat → Value} {D : Dv} (h : DX w S g fv D) (n : Int) (hn : n ≤ 9223372036854775807) :
    Calls Try.prog 12 #[.pointer (some ⟨g, 0, none⟩), .int .i64 n] w fun e w' => e = .returned (.tuple #[]) ∧ DX w' S g fv (hltD D n) ∧ Fr (fun x => x = g) w w' := by
  obtain ⟨col, uv, h⟩ := h
  refine (halt_any w g fv D.lim D.left D.dead h.box n).mono ?_
  rintro e w' ⟨rfl, hb, hf⟩
  exact ⟨rfl, ⟨col, uv, h.head hf true _ _ (by omega) hb⟩, hf⟩
theorem dx_here {w : World} {S : Nat → Prop} {g : Nat} {fv : Nat → Value} {D : Dv} (h : DX w S g fv D) : S g := by obtain ⟨col, uv, h⟩ := h; exact h.here
theorem lg_halted {w : World} {T : Nat → Prop} {t g : Nat} {fv : Nat → Value} {D : Dv} {L : Lv} (h : LgAt w T t g fv D L) :
    Calls Try.prog 30 #[.pointer (some ⟨g, 0, none⟩)] w fun e w' => e = .returned (.bool D.dead) ∧ w = w' := by
  obtain ⟨S, A, c, At, ct, h1, h2, _⟩ := h
  exact ds_halted h2
theorem ds_crash {w : World} {S : Nat → Prop} {g : Nat} {fv : Nat → Value} {D : Dv} (h : DX w S g fv D) (v : Value) (l : List Ft) (hv : SS cFt 4 w w.heap.size v l) (ho : ∀ x ∈ l, x.Ok) (hl : l.length ≤ 100000) (hw : D.Few 100000) :
    Calls Try.prog 11 #[.pointer (some ⟨g, 0, none⟩), v] w fun e w' => e = .returned (.tuple #[]) ∧ ∃ S', DX w' S' g fv (D.crash l) ∧ Mv w S w' S' := by
  obtain ⟨col, uv, h⟩ := h
  refine (crash_yes h v l hv ho hl hw).mono ?_
  rintro e w' ⟨rfl, h5, h6⟩
  exact ⟨rfl, _, h5, mv_grow h6⟩
theorem lg_crash {w : World} {T : Nat → Prop} {t g : Nat} {fv : Nat → Value} {D : Dv} {L : Lv} (h : LgAt w T t g fv D L) (v : Value) (l : List Ft) (hv : SS cFt 4 w w.heap.size v l) (ho : ∀ x ∈ l, x.Ok) (hl : l.length ≤ 100000) (hw : D.Few 100000) :
    Calls Try.prog 11 #[.pointer (some ⟨g, 0, none⟩), v] w fun e w' => e = .returned (.tuple #[]) ∧ LgAt w' (growS w w' T) t g fv (D.crash l) L ∧ Fr T w w' := by
  obtain ⟨S, A, c, At, ct, h1, h2, h3, h4, h5, h6, h7, h8, h9⟩ := h
  refine (ds_crash h2 v l hv ho hl hw).mono ?_
  rintro e w' ⟨rfl, S', d, hm⟩
  obtain ⟨b1, b2⟩ := mv_box h1 hm h5
  exact ⟨rfl, lg_step (L := L) h1 h3 h4 h6 h7 h8 h9 L.h L.se L.la b1 d (hm.fr.mono (fun _ _ hx => .inl hx)) hm.new b2⟩
theorem lg_halt {w : World} {T : Nat → Prop} {t g : Nat} {fv : Nat → Value} {D : Dv} {L : Lv} (h : LgAt w T t g fv D L) (n : Int) (hn : n ≤ 9223372036854775807) :
    Calls Try.prog 12 #[.pointer (some ⟨g, 0, none⟩), .int .i64 n] w fun e w' => e = .returned (.tuple #[]) ∧ LgAt w' (growS w w' T) t g fv (hltD D n) L ∧ Fr T w w' := by
  obtain ⟨S, A, c, At, ct, h1, h2, h3, h4, h5, h6, h7, h8, h9⟩ := h
  refine (ds_halt h2 n hn).mono ?_
  rintro e w' ⟨rfl, d, hf⟩
  have hg := dx_here h2
  have hfS : Fr S w w' := hf.mono (fun x _ hx => by rw [hx]; exact hg)
  obtain ⟨b1, b2⟩ := mv_box h1 (⟨hfS, fun x hx => .inl hx⟩ : Mv w S w' S) h5
  exact ⟨rfl, lg_step (L := L) h1 h3 h4 h6 h7 h8 h9 L.h L.se L.la b1 d (hfS.mono (fun _ _ hx => .inl hx)) (fun x hx => .inl hx) b2⟩
end Go.Proofs.Yteggcehjpfmikaa.Wal
namespace Go.Proofs.Yteggcehjpfmikaa.Wal
open Go.ChangeShapes Go.WideShapes Go.ChangeAt Go.RowKit Go.IntWalk Go.Proofs.Mem Go.Proofs.Each Law Go.Proofs.Yteggcehjpfmikaa.Disk Strip Rec
set_option linter.unusedVariables false
set_option linter.unusedSimpArgs false
set_option maxRecDepth 100000
def RunR (D0 : Dv) (xl : List Oq) (D : Dv) (L : Lv) (es : List Ent) (b0 l0 : Int) (e0 : List Ent) : Prop :=
  (ReachN D0 L0 xl xl.length D L es ∧ b0 = L.h.ba ∧ l0 = L.h.ba + L.la ∧ e0 = es) ∨
  (∃ k Da La o, k < xl.length ∧ ReachN D0 L0 xl k Da La e0 ∧ xl[k]? = some o ∧ StepR Da La e0 o D L es ∧ D.dead = true ∧ b0 = La.h.ba ∧ l0 = La.h.ba + La.la)
def sizeN (size : Int) : Nat := (if size < 18 then 18 else size).toNat
theorem sizeN_in (size : Int) (h : size ≤ 120) : 18 ≤ sizeN size ∧ sizeN size ≤ 120 := by unfold sizeN; split <;> omega
set_option maxHeartbeats 16000000 in
theorem run_any (w : World) (size : Int) (hsize : size ≤ 120) (A : Option Addr) (c : Nat) (xl : List Oq) (hlc : xl.length ≤ c) (hcm : c ≤ maxLen) (hl : SS cOq 16 w w.heap.size (.slice A xl.length c) xl) (hx : ∀ o ∈ xl, OqAt w w.heap.size o) (h40 : xl.length ≤ 40) (halt : Int) (hh : -1 ≤ halt ∧ halt ≤ 255) :
    Calls Try.prog 10 #[.int .i64 size, .slice A xl.length c, .int .i64 halt] w fun e w' => ∃ T pb t g fv D L b0 l0 A0 c0 e0 A1 c1 es, e = .returned (.pointer (some ⟨pb, 0, none⟩)) ∧ PlAt w' w.heap.size T pb t g fv D L b0 l0 A0 c0 e0 L.h.ba (L.h.ba + L.la) A1 c1 es ∧ Below w.heap.size w w' ∧ RunR (D1 (sizeN size) halt) xl D L es b0 l0 e0 := by
  unfold maxLen at hcm
  obtain ⟨n, hn⟩ : ∃ n, sizeN size = n := ⟨_, rfl⟩
  have hn2 := sizeN_in size hsize
  rw [hn] at hn2 ⊢
  have hmx : (if size < 18 then 18 else size) = (n : Int) := by
    rw [← hn]; unfold sizeN
    split <;> omega
  have CN := Lib.hid (new_at (n : Int) 0 w n 0 rfl rfl (by omega) (by decide))
  have HN := Lib.hid hn2
  have HL := Lib.hid hl
  have HX := Lib.hid hx
  have H40 := Lib.hid h40
  have HH := Lib.hid hh
  clear hl hx hn hn2 hsize
  go_enter Try.func10, Try.ntmps10
  go_wp2_with fail
  (with_reducible refine CN.out.mono ?_)
  rintro e w1 ⟨rfl, col, fv, uv, hd, _, hb1⟩
  obtain ⟨g, hg⟩ : ∃ g, w.heap.size = g := ⟨_, rfl⟩
  have d1 : DX w1 (newS w w1) g fv (D00 n) := by rw [← hg]; exact ⟨col, uv, hd⟩
  obtain ⟨pb, hpb⟩ : ∃ pb, w1.heap.size = pb := ⟨_, rfl⟩
  have b2 := hb1.trans ((new_ (Below.refl w1.heap.size w1) (.cells #[.pointer (some ⟨g, 0, none⟩), .pointer none, .int .u64 0, .int .u64 0, .slice none 0 0, .int .u64 0, .int .u64 0, .slice none 0 0] 35)).mono hb1.size)
  have P2 := Box.new w1 #[.pointer (some ⟨g, 0, none⟩), .pointer none, .int .u64 0, .int .u64 0, .slice none 0 0, .int .u64 0, .int .u64 0, .slice none 0 0] 35
  have d2 := d1.later (new_ (Below.refl w1.heap.size w1) (.cells #[.pointer (some ⟨g, 0, none⟩), .pointer none, .int .u64 0, .int .u64 0, .slice none 0 0, .int .u64 0, .int .u64 0, .slice none 0 0] 35))
  rw [hpb] at P2
  obtain ⟨w2, hw2⟩ : ∃ w2, w1.alloc (.cells #[.pointer (some ⟨g, 0, none⟩), .pointer none, .int .u64 0, .int .u64 0, .slice none 0 0, .int .u64 0, .int .u64 0, .slice none 0 0] 35) = w2 := ⟨_, rfl⟩
  rw [hw2] at b2 P2 d2
  rw [hg]
  have k0 := P2.cell 0
  have CW := Lib.hid (new_any d2 0 (d00_few n) (by decide) (by have h := d00_len n; unfold Wal.sz; rw [h]; have := HN.out; omega))
  have HP2 := Lib.hid P2
  have HB2 := Lib.hid b2
  have HS2 := Lib.hid (show ∀ x, newS w w1 x → w.heap.size ≤ x ∧ x < pb from fun x hx => ⟨hx.1, by rw [← hpb]; exact hx.2⟩)
  have HPB := Lib.hid (show w.heap.size ≤ pb from by rw [← hpb]; exact hb1.size)
  clear hd hb1 d1 b2 P2 d2
  go_wp2_with fail
  (with_reducible refine CW.out.mono ?_)
  rintro e w3 ⟨t, S', rfl, X3, d3, m3, n3, t3⟩
  clear hpb hw2
  have P3 := mv_box HP2.out m3 (fun hs => by have := (HS2.out _ hs).2; omega)
  have htp : t ≠ pb := by have := HP2.out.lt; omega
  have s3 := P3.1.cell 1
  have f3 := P3.1.frozen 1
  have P4 := P3.1.set_ 1 (.pointer (some ⟨t, 0, none⟩))
  simp only [List.setIfInBounds_toArray, List.set_cons_succ, List.set_cons_zero] at P4
  have X4 := X3.far (p := ⟨pb, 1, none⟩) htp (.pointer (some ⟨t, 0, none⟩))
  have F4 := (Fr.refl (fun x => x = pb) w3).setCell (p := ⟨pb, 1, none⟩) (.inl rfl) (.pointer (some ⟨t, 0, none⟩))
  have d4 := d3.far F4 (fun x hx e => P3.2 (e ▸ hx))
  obtain ⟨w4, hw4⟩ : ∃ w4, w3.setCell ⟨pb, 1, none⟩ (.pointer (some ⟨t, 0, none⟩)) = w4 := ⟨_, rfl⟩
  rw [hw4] at P4 X4 F4 d4
  have LG4 : LgAt w4 (fun x => S' x ∨ x = t) t g fv (D0 n) L0 := ⟨S', none, 0, none, 0, X4, d4, World.ownsRow_nil _ _ _ _, World.ownsRow_nil _ _ _ _, n3, (fun k hk => by cases hk), (fun k hk => by cases hk), fun x hx => .inl hx, .inr rfl⟩
  have lv0 : LvOk (D0 n) L0 := by
    have := (run0_ok n HN.out.1 HN.out.2 (-1)).lv (by decide)
    rwa [show D1 n (-1) = D0 n from rfl] at this
  have CB := base_lg LG4
  have CL := lasts_lg LG4 lv0
  rw [show L0.h.ba = 1 from rfl] at CB CL
  rw [show (1 : Int) + ((L0.la : Nat) : Int) = 1 from rfl] at CL
  have HCB := Lib.hid CB
  have HCL := Lib.hid CL
  have p5 := P4.cell 5
  have p6 := P4.cell 6
  have p7 := P4.cell 7
  have f5 := P4.frozen 5
  have f6 := P4.frozen 6
  have f7 := P4.frozen 7
  have P5 := ((P4.set_ 5 (.int .u64 1)).set_ 6 (.int .u64 1)).set_ 7 (.slice none 0 0)
  simp only [List.setIfInBounds_toArray, List.set_cons_succ, List.set_cons_zero] at P5
  have F5 := (((Fr.refl (fun x => x = pb) w4).setCell (p := ⟨pb, 5, none⟩) (.inl rfl) (.int .u64 1)).setCell (p := ⟨pb, 6, none⟩) (.inl rfl) (.int .u64 1)).setCell (p := ⟨pb, 7, none⟩) (.inl rfl) (.slice none 0 0)
  obtain ⟨w5, hw5⟩ : ∃ w5, ((w4.setCell ⟨pb, 5, none⟩ (.int .u64 1)).setCell ⟨pb, 6, none⟩ (.int .u64 1)).setCell ⟨pb, 7, none⟩ (.slice none 0 0) = w5 := ⟨_, rfl⟩
  rw [hw5] at P5 F5
  have r5 := P5.cell 5
  have r6 := P5.cell 6
  have r7 := P5.cell 7
  have r2 := P5.cell 2
  have r3 := P5.cell 3
  have r4 := P5.cell 4
  have g2 := P5.frozen 2
  have g3 := P5.frozen 3
  have g4 := P5.frozen 4
  have P6 := ((P5.set_ 2 (.int .u64 1)).set_ 3 (.int .u64 1)).set_ 4 (.slice none 0 0)
  simp only [List.setIfInBounds_toArray, List.set_cons_succ, List.set_cons_zero] at P6
  have F6 := (((F5.setCell (p := ⟨pb, 2, none⟩) (.inl rfl) (.int .u64 1)).setCell (p := ⟨pb, 3, none⟩) (.inl rfl) (.int .u64 1)).setCell (p := ⟨pb, 4, none⟩) (.inl rfl) (.slice none 0 0))
  obtain ⟨w6, hw6⟩ : ∃ w6, ((w5.setCell ⟨pb, 2, none⟩ (.int .u64 1)).setCell ⟨pb, 3, none⟩ (.int .u64 1)).setCell ⟨pb, 4, none⟩ (.slice none 0 0) = w6 := ⟨_, rfl⟩
  rw [hw6] at P6 F6
  have hnT : ¬ (S' pb ∨ pb = t) := fun h => by rcases h with h | h; (exact P3.2 h); (exact htp h.symm)
  have LG6 := LG4.far F6 (fun x hx e => hnT (e ▸ hx))
  have hB3 : Below w.heap.size w w3 := HB2.out.trans (m3.fr.to_below (fun k hk => (HS2.out k hk).1) (HB2.out.size))
  have hB6 : Below w.heap.size w w6 := hB3.trans ((F4.trans F6).to_below (fun k hk => by rw [hk]; exact HPB.out) hB3.size)
  have PL6 : PlAt w6 w.heap.size (fun x => S' x ∨ x = t) pb t g fv (D0 n) L0 1 1 none 0 [] 1 1 none 0 [] := ⟨LG6, P6, fun x hx => by
    have z6 := F6.size
    have z4 := F4.size
    have z2 := HB2.out.size
    rcases hx with hx | hx
    · refine ⟨?_, by have := d3.old x hx; omega⟩
      rcases m3.new x hx with h | h
      · exact (HS2.out x h).1
      · omega
    · have := X3.lt; omega, hnT, HPB.out, EntAt.nil _ _ _ _, EntAt.nil _ _ _ _⟩
  have HPL := Lib.hid PL6
  have HB6 := Lib.hid hB6
  have e0 := P6.cell 0
  clear X3 d3 m3 n3 t3 P3 htp P4 X4 F4 d4 LG4 lv0 CB CL P5 F5 P6 F6 hnT LG6 hB3 hB6 PL6
  go_upto_region 10 with (first
    | (go_at_call 19; (with_reducible refine HCB.out.mono ?_); rintro er w7 ⟨rfl, rfl⟩)
    | (go_at_call 14; (with_reducible refine HCL.out.mono ?_); rintro er w7 ⟨rfl, rfl⟩))
  clear p5 p6 p7 f5 f6 f7 r5 r6 r7 r2 r3 r4 g2 g3 g4 s3 f3 k0 hw4 hw5 hw6 hg
  by_cases hz : 0 ≤ halt
  case' pos =>
    have dz : decide ((0 : Int) ≤ halt) = true := decide_eq_true hz
    have CH := Lib.hid (lg_halt HPL.out.lg halt (by have := HH.out; omega))
    have HZ := Lib.hid hz
    clear hz
    go_wp2_with fail
    (with_reducible refine CH.out.mono ?_)
    rintro er w7 ⟨rfl, hlg, hfr⟩
    have pl7 := plat_of (w := w6) (w2 := w6) HPL.out.tB HPL.out.pT HPL.out.pB ⟨Nat.le_refl _, HB6.out.size⟩ (Below.refl _ _) HPL.out.bx HPL.out.a1 hlg hfr
    rw [show hltD (D0 n) halt = D1 n halt from (if_pos HZ.out).symm] at pl7
    have HPL7 := Lib.hid (show ∃ T, PlAt w7 w.heap.size T pb t g fv (D1 n halt) L0 1 1 none 0 [] 1 1 none 0 [] from ⟨_, pl7.1⟩)
    have HB7 := Lib.hid (HB6.out.trans pl7.2)
    clear pl7 hlg hfr CH HZ dz e0
    go_upto_region 12 with fail
  case' neg =>
    have dz : decide ((0 : Int) ≤ halt) = false := decide_eq_false hz
    have HPL7 := Lib.hid (show ∃ T, PlAt w6 w.heap.size T pb t g fv (D1 n halt) L0 1 1 none 0 [] 1 1 none 0 [] from ⟨_, by rw [show D1 n halt = D0 n from if_neg hz]; exact HPL.out⟩)
    have HB7 := HB6
    clear hz e0
    go_upto_region 12 with fail
    clear dz
    obtain ⟨w7, rfl⟩ : ∃ w7, w7 = w6 := ⟨w6, rfl⟩
  all_goals
    clear HPL HB6 HCB HCL HP2 HB2 CW CN
    go_wp2
    go_loopw [10] (fun i wr => ∃ (k : Nat) (T : Nat → Prop) (D : Dv) (L : Lv) (b0 l0 : Int) (A0 : Option Addr) (c0 : Nat) (e0 : List Ent) (A1 : Option Addr) (c1 : Nat) (es : List Ent), i = .int .i64 k ∧ k ≤ xl.length ∧ Hid (PlAt wr w.heap.size T pb t g fv D L b0 l0 A0 c0 e0 L.h.ba (L.h.ba + L.la) A1 c1 es) ∧ Hid (ReachN (D1 n halt) L0 xl k D L es) ∧ Hid (Below w.heap.size w wr)) (fun i _ => xl.length - (intOf i).toNat)
    case atStart =>
      obtain ⟨T7, p7⟩ := HPL7.out
      exact ⟨0, T7, D1 n halt, L0, 1, 1, none, 0, [], none, 0, [], rfl, Nat.zero_le _, Lib.hid p7, Lib.hid ⟨rfl, rfl, rfl⟩, HB7⟩
    case round =>
      clear HPL7 HB7
      obtain ⟨k, T, D, L, b0, l0, A0, c0, e0, A1, c1, es, rfl, hk, HP, HR, HBW⟩ := hrel
      obtain ⟨wa, rfl⟩ : ∃ wa, wa = wr := ⟨wr, rfl⟩
      by_cases hlt : k < xl.length
      · have d3 : decide ((k : Int) < (xl.length : Int)) = true := decide_eq_true (by omega)
        have d3n : decide (k < xl.length) = true := decide_eq_true hlt
        have p3 : IntKind.i64.wrap ((k : Int) + 1) = (k : Int) + 1 := IntWalk.i64_in _ (by have := H40.out; omega)
        have hs := HL.out.below HBW.out
        obtain ⟨b, off, rfl, hbB, hc⟩ := hs.at_ (List.getElem?_eq_getElem hlt)
        have hmem := List.getElem_mem hlt
        have hget : xl[k]? = some xl[k] := List.getElem?_eq_getElem hlt
        obtain ⟨o, ho⟩ : ∃ o, xl[k] = o := ⟨_, rfl⟩
        rw [ho] at hc hmem hget
        obtain ⟨rs, ok⟩ := reach_ok HN.out.1 HN.out.2 (fun o ho => (HX.out o ho).p) k (by have := H40.out; omega) HR.out
        obtain ⟨⟨V1, d1, f1⟩, ⟨V2, d2, f2⟩, ⟨V3, d3', f3⟩, ⟨V4, d4, f4⟩, ⟨V5, d5, f5⟩⟩ := (HX.out o hmem).forms
        have CS := step_any HP.out rs k ok (by have := H40.out; omega) o ((HX.out o hmem).below HBW.out)
        rw [show (cOq o).toArray = #[.int .u8 o.k, .int .u8 o.r.k, .int .u32 o.r.t, .int .u64 o.r.p, .int .u64 o.r.n, .int .u32 o.r.c.pg, .int .u16 o.r.c.sl, .bool o.r.c.had, .bool o.r.c.has, o.a, o.b, o.ta, o.da, .int .u64 o.sp, .int .u64 o.at_, o.lv] from rfl, f1, f2, f3, f4, f5] at CS
        unfold cOq at hc
        rw [f1, f2, f3, f4, f5] at hc
        have HCS := Lib.hid CS
        have HGET := Lib.hid hget
        have m0 : wa.cell? ⟨b, off + k * 16, none⟩ = some (.int .u8 o.k) := hc 0 _ rfl
        have m1 := hc 1 _ rfl
        have m2 := hc 2 _ rfl
        have m3 := hc 3 _ rfl
        have m4 := hc 4 _ rfl
        have m5 := hc 5 _ rfl
        have m6 := hc 6 _ rfl
        have m7 := hc 7 _ rfl
        have m8 := hc 8 _ rfl
        have m9 := hc 9 _ rfl
        have m10 := hc 10 _ rfl
        have m11 := hc 11 _ rfl
        have m12 := hc 12 _ rfl
        have m13 := hc 13 _ rfl
        have m14 := hc 14 _ rfl
        have m15 := hc 15 _ rfl
        clear hs hc hmem hget ho ok CS f1 f2 f3 f4 f5
        go_wp2_with fail
        (with_reducible refine HCS.out.mono ?_)
        rintro er w5 ⟨rfl, T', D', L', A2, c2, e2, hst, hpl, hb5⟩
        have s0 : w5.cell? ⟨pb, 0, none⟩ = some (.pointer (some ⟨g, 0, none⟩)) := hpl.bx.cell 0
        have CH := Lib.hid (lg_halted hpl.lg)
        have HPL := Lib.hid hpl
        have HST := Lib.hid hst
        have HB5 := Lib.hid (HBW.out.trans hb5)
        obtain ⟨dd, hdd⟩ : ∃ dd, D'.dead = dd := ⟨_, rfl⟩
        rw [hdd] at CH
        have HDD := Lib.hid hdd
        clear hst hpl hb5 hdd m0 m1 m2 m3 m4 m5 m6 m7 m8 m9 m10 m11 m12 m13 m14 m15
        go_wp2_with fail
        (with_reducible refine CH.out.mono ?_)
        rintro er w6' ⟨rfl, rfl⟩
        cases dd with
        | true =>
          go_wp2
          go_ret
          exact ⟨T', pb, t, g, fv, D', L', _, _, A1, c1, es, A2, c2, e2, rfl, HPL.out, HB5.out, .inr ⟨k, D, L, o, hlt, HR.out, HGET.out, HST.out, HDD.out, rfl, rfl⟩⟩
        | false =>
          go_wp2
          go_roundw
          case rel => exact ⟨k + 1, T', D', L', _, _, A1, c1, es, A2, c2, e2, by go_num, by omega, HPL, Lib.hid ⟨D, L, es, o, HR.out, HGET.out, HST.out, HDD.out⟩, HB5⟩
          case measure => simp [intOf]; omega
      · have d3 : decide ((k : Int) < (xl.length : Int)) = false := decide_eq_false (by omega)
        have d3n : decide (k < xl.length) = false := decide_eq_false hlt
        have hkl : k = xl.length := by omega
        subst hkl
        have p5 := HP.out.bx.cell 5
        have p6 := HP.out.bx.cell 6
        have p7 := HP.out.bx.cell 7
        have p2 := HP.out.bx.cell 2
        have p3 := HP.out.bx.cell 3
        have p4 := HP.out.bx.cell 4
        have q2 := HP.out.bx.frozen 2
        have q3 := HP.out.bx.frozen 3
        have q4 := HP.out.bx.frozen 4
        have x6 := ((HP.out.bx.set_ 2 (.int .u64 L.h.ba)).set_ 3 (.int .u64 (L.h.ba + L.la))).set_ 4 (.slice A1 es.length c1)
        have fx := (((Fr.refl (fun x => x = pb) wa).setCell (p := ⟨pb, 2, none⟩) (.inl rfl) (.int .u64 L.h.ba)).setCell (p := ⟨pb, 3, none⟩) (.inl rfl) (.int .u64 (L.h.ba + L.la))).setCell (p := ⟨pb, 4, none⟩) (.inl rfl) (.slice A1 es.length c1)
        simp only [List.setIfInBounds_toArray, List.set_cons_succ, List.set_cons_zero] at x6
        have HX6 := Lib.hid x6
        have HF6 := Lib.hid fx
        clear x6 fx
        go_wp2
        go_ret
        have h := HP.out
        have hb6 : Below w.heap.size wa (((wa.setCell ⟨pb, 2, none⟩ (.int .u64 L.h.ba)).setCell ⟨pb, 3, none⟩ (.int .u64 (L.h.ba + L.la))).setCell ⟨pb, 4, none⟩ (.slice A1 es.length c1)) := HF6.out.to_below (fun k hk => by rw [hk]; exact h.pB) HBW.out.size
        have hf2 := HF6.out.mono (S' := fun x => T x ∨ x = pb) (fun _ _ h => .inr h)
        have hsz := HF6.out.size
        exact ⟨T, pb, t, g, fv, D, L, _, _, A1, c1, es, A1, c1, es, rfl, ⟨h.lg.far HF6.out (fun x hx e => h.pT (e ▸ hx)), HX6.out, fun x hx => by have := h.tB x hx; omega, h.pT, h.pB, h.a1.move hf2 hb6 (fun x hx => .inl hx), h.a1.move hf2 hb6 (fun x hx => .inl hx)⟩, HBW.out.trans hb6, .inl ⟨HR.out, rfl, rfl, rfl⟩⟩
end Go.Proofs.Yteggcehjpfmikaa.Wal
namespace Go.Proofs.Yteggcehjpfmikaa.Wal
open Go.RowKit Go.WideShapes Go.Proofs.Mem Go.Proofs.Yteggcehjpfmikaa.Disk Strip Rec
set_option linter.unusedVariables false
def Free (D : Dv) : Prop := D.lim = false ∧ D.dead = false
theorem wrA_free {D : Dv} (h : Free D) (i : Nat) (N : Int) (xs : List Int) : Free (D.wrA i N xs) := by
  unfold Dv.wrA
  split
  · rw [wr_free h.1]
    refine ⟨h.1, ?_⟩
    show cntD D.lim D.left D.dead = false
    rw [h.1, h.2]; rfl
  · exact h
theorem synA_free {D : Dv} (h : Free D) (i : Nat) : Free (D.synA i) := by
  unfold Dv.synA
  split
  · rw [syn_free h.1]
    refine ⟨h.1, ?_⟩
    show cntD D.lim D.left D.dead = false
    rw [h.1, h.2]; rfl
  · exact h
theorem wrs_free : ∀ (l : List (List Int)) {D : Dv} (a : Nat), Free D → Free (wrs D a l)
  | [], D, a, h => h
  | x :: t, D, a, h => wrs_free t (a + 1) (wrA_free h 0 a x)
theorem clnF_free : ∀ (l : List (List Int)) {D : Dv} (q : Bool) (a : Nat), Free D → Free (clnF D q a l).1
  | [], D, q, a, h => h
  | x :: t, D, q, a, h => by
    rw [clnF]
    split
    · exact clnF_free t q (a + 1) h
    · exact clnF_free t true (a + 1) (wrA_free h 0 a x)
theorem clnD_free {D : Dv} (h : Free D) (a : Nat) (l : List (List Int)) : Free (clnD D a l) := by
  unfold clnD
  split
  · exact synA_free (clnF_free l false a h) 0
  · exact clnF_free l false a h
theorem hdD_free {D : Dv} (h : Free D) (n : Nat) (b : List Int) : Free (hdD D n b) := synA_free (wrA_free h 0 n b) 0
theorem flA_free {D : Dv} (h : Free D) (L : Lv) (u : Nat) : Free (flA D L u) := by
  unfold flA
  split
  · exact h
  · exact synA_free (wrs_free _ _ h) 0
theorem mkD_free {D : Dv} (h : Free D) (L : Lv) (ch : Int) : Free (mkD D L ch) := hdD_free (flA_free h L _) _ _
theorem rnD_free {D : Dv} (h : Free D) (L : Lv) : Free (rnD D L) := hdD_free (clnD_free (flA_free h L _) _ _) _ _
theorem step_free {D D' : Dv} {L L' : Lv} {es es' : List Ent} {o : Oq} (h : Free D) (hs : StepR D L es o D' L' es') : Free D' := by
  rcases hs with ⟨_, k, _, rfl, _⟩ | ⟨_, rfl, _⟩ | ⟨_, rfl, _⟩ | ⟨_, rfl, _⟩ | ⟨_, rfl, _⟩ | ⟨_, _, _, _, rfl, _⟩
  · exact flA_free h L _
  · exact mkD_free h L _
  · exact rnD_free h L
  · exact h
  · exact h
  · exact h
def GoodD (n : Nat) (D : Dv) (L : Lv) : Prop := Free D ∧ ∃ c, Cl D n c ∧ GoodC n c L.h L.se (L.ys.take L.la)
theorem d00_cl (n : Nat) : Cl (D00 n) n (fun _ => z128) := by
  have hl := d00_len n
  refine ⟨⟨rfl, hl, fun s hs => ?_, fun i hi => ?_⟩, fun s hs => ?_⟩
  · have := d00_few n 1 (by decide) s hs
    exact List.eq_nil_of_length_eq_zero (by omega)
  · rw [rd_eq (by rw [hl]; exact hi)]
    have : ((D00 n).f 0)[i]'(by rw [hl]; exact hi) = zSe := by simp [D00, newTo]
    rw [this]; rfl
  · have := d00_few n 0 (by decide) s hs
    exact List.eq_nil_of_length_eq_zero (by omega)
theorem good0 (n : Nat) (hn : 18 ≤ n) : GoodD n (D0 n) L0 := by
  have hz : 8 ≤ szN n := by unfold szN; omega
  obtain ⟨c, h1, h2⟩ := good_new (d00_cl n) hz
  exact ⟨hdD_free (clnD_free (show Free (D00 n) from ⟨rfl, rfl⟩) _ _) _ _, c, h1, h2⟩
theorem good_step {n : Nat} {D D' : Dv} {L L' : Lv} {rs : List Rc} {es es' : List Ent} {o : Oq} {j : Nat} (ok : RunOk D L rs es j) (hj : j < 60) (ho : 0 ≤ o.at_ ∧ o.at_ ≤ 18446744073709551615) (g : GoodD n D L) (hs : StepR D L es o D' L' es') : GoodD n D' L' := by
  have hfree := step_free g.1 hs
  obtain ⟨_, c, k, gc⟩ := g
  have lv := ok.lv (by omega)
  have hla := lv.la
  have hlen := ok.len
  rw [sz_ct k.toCt] at hlen
  have hst : L.h.st < 18446744073709551615 := by have := ok.st.2; omega
  have hba : L.h.ba + L.ys.length ≤ 9223372036854775808 := by have := ok.ba.2; have := lv.nn; omega
  rcases hs with ⟨_, i, hk, rfl, rfl, _⟩ | ⟨_, rfl, rfl, _⟩ | ⟨_, rfl, rfl, _⟩ | ⟨_, rfl, _, rfl, _⟩ | ⟨_, rfl, _, rfl, _⟩ | ⟨_, _, _, _, rfl, rfl, _⟩
  · exact ⟨hfree, good_fl k gc hla hlen _ (endK_le ok i (upK_le ok hk))⟩
  · exact ⟨hfree, good_mk k gc hla hlen _ ho hst⟩
  · exact ⟨hfree, good_rn k gc hla hlen hst hba⟩
  · refine ⟨hfree, c, k, ?_⟩
    have e : (apL L o.r).ys.take (apL L o.r).la = L.ys.take L.la := List.take_append_of_le_length hla
    rw [e]; exact gc
  · exact ⟨hfree, c, k, gc⟩
  · exact ⟨hfree, c, k, gc⟩
theorem d1_no (n : Nat) : D1 n (-1) = D0 n := if_neg (by decide)
theorem reach_good {n : Nat} (hn : 18 ≤ n) (hn2 : n ≤ 120) {xl : List Oq} (hx : ∀ o ∈ xl, OqP o) : ∀ (k : Nat) {D : Dv} {L : Lv} {es : List Ent}, k ≤ 50 → ReachN (D1 n (-1)) L0 xl k D L es → GoodD n D L
  | 0, D, L, es, hk, h => by obtain ⟨rfl, rfl, rfl⟩ := h; rw [d1_no]; exact good0 n hn
  | k + 1, D', L', es', hk, h => by
    obtain ⟨D, L, es, o, h1, h2, h3, _⟩ := h
    obtain ⟨rs, ok⟩ := reach_ok hn hn2 hx k (by omega) h1
    exact good_step ok (by omega) (hx o (List.mem_of_getElem? h2)).at_ (reach_good hn hn2 hx k (by omega) h1) h3
theorem run_free {n : Nat} (hn : 18 ≤ n) (hn2 : n ≤ 120) {xl : List Oq} (hx : ∀ o ∈ xl, OqP o) (hl : xl.length ≤ 40) {D : Dv} {L : Lv} {es e0 : List Ent} {b0 l0 : Int} (h : RunR (D1 n (-1)) xl D L es b0 l0 e0) : GoodD n D L ∧ ∃ rs, RunOk D L rs es xl.length := by
  rcases h with ⟨h1, _⟩ | ⟨k, Da, La, o, hk, h1, h2, h3, h4, _⟩
  · exact ⟨reach_good hn hn2 hx _ (by omega) h1, reach_ok hn hn2 hx _ (by omega) h1⟩
  · have := (step_free (reach_good hn hn2 hx k (by omega) h1).1 h3).2
    rw [h4] at this; cases this
theorem crash_len (D : Dv) (l : List Ft) (k : Nat) : ((D.crash l).f k).length = (D.f k).length := by
  unfold Dv.crash Dv.crTo; simp
theorem crash_cl {D : Dv} {n : Nat} {c : Nat → List Int} (h : Cl D n c) (l : List Ft) : Cl (D.crash l) n c ∧ Free (D.crash l) := by
  have hs : ∀ (k i : Nat) (s : Se), s.wait = [] → crS l k i s = s := fun k i s hw => by
    unfold crS Se.crash
    rw [hw]
    simp only [List.length_nil, Nat.not_lt_zero, if_false]
    have : s.keep (kp (fateAt l k i).keep 0) = s.last := by
      unfold Se.keep
      split
      · rfl
      · rw [hw]; rfl
    rw [this, ← hw]
  have hf : ∀ k, k < 2 → (D.crash l).f k = D.f k := fun k hk => by
    unfold Dv.crash Dv.crTo
    dsimp only
    apply List.ext_getElem?
    intro i
    rw [List.getElem?_mapIdx]
    cases e : (D.f k)[i]? with
    | none => rfl
    | some s =>
      have hw : s.wait = [] := by
        have hm := List.mem_of_getElem? e
        rcases (show k = 0 ∨ k = 1 by omega) with rfl | rfl
        · exact h.w0 s hm
        · exact h.w1 s hm
      rw [Option.map_some, if_pos (.inl hk), hs k i s hw]
  refine ⟨⟨⟨rfl, by rw [crash_len]; exact h.len, by rw [hf 1 (by decide)]; exact h.w1, fun i hi => ?_⟩, by rw [hf 0 (by decide)]; exact h.w0⟩, rfl, rfl⟩
  rw [← h.ct i hi, rd_eq (by rw [crash_len, h.len]; exact hi), rd_eq (by rw [h.len]; exact hi)]
  congr 1
  have e : ((D.crash l).f 0)[i]? = (D.f 0)[i]? := by rw [hf 0 (by decide)]
  rw [List.getElem?_eq_getElem (by rw [crash_len, h.len]; exact hi), List.getElem?_eq_getElem (by rw [h.len]; exact hi)] at e
  exact Option.some.inj e
end Go.Proofs.Yteggcehjpfmikaa.Wal
namespace Go.Proofs.Yteggcehjpfmikaa.Wal
open Go.ChangeShapes Go.WideShapes Go.ChangeAt Go.RowKit Go.IntWalk Go.Proofs.Mem Go.Proofs.Each Law Go.Proofs.Yteggcehjpfmikaa.Disk Strip Rec
set_option linter.unusedVariables false
set_option linter.unusedSimpArgs false
set_option maxRecDepth 100000
theorem open_good {w : World} {S : Nat → Prop} {g : Nat} {fv : Nat → Value} {D : Dv} (h : DX w S g fv D) {n : Nat} {c : Nat → List Int} {H : Hh} {se : Nat} {rs : List Rc} (k : Cl D n c) (gc : GoodC n c H se (strm rs)) (hr : RsOk rs) (h7 : szN n ≤ 700) :
    Calls Try.prog 13 #[.pointer (some ⟨g, 0, none⟩)] w fun e w' => ∃ t D', e = .returned (.tuple #[.pointer (some ⟨t, 0, none⟩), .int .u16 0]) ∧ LgAt w' (growS w w' S) t g fv D' ⟨H, se, strm rs, begs rs, (strm rs).length⟩ ∧ Cl D' n c ∧ Fr S w w' ∧ w.heap.size ≤ t := by
  have hn := good_newest k.toCt gc
  have ho := good_opL k.toCt gc hr
  refine (open_some h 0 k.few (by decide) (by rw [sz_ct k.toCt]; exact gc.sz) (by rw [sz_ct k.toCt]; exact h7) H se hn ⟨gc.ok.ar.1, gc.may.2.1⟩).mono ?_
  rintro e w' ⟨t, rfl, hl, hf, ht⟩
  rw [ho] at hl
  exact ⟨t, _, rfl, hl, good_opD k gc, hf, ht⟩
def rb : Rc := ⟨1, 1, 0, 0, ⟨0, 0, false, false, [], []⟩, [], []⟩
theorem rb_may : mayS rb = true := by decide
theorem rb_len : (encS rb).length = 27 := by rw [enc_len]; simp [bodyS, rb, NumBytes.putS_len]
theorem rb_in (w : World) : RcIn w w.heap.size rb (.slice none 0 0) (.slice none 0 0) (.slice none 0 0) (.slice none 0 0) := ⟨IR.nil _ _ _, IR.nil _ _ _, SS.nil _ _, SS.nil _ _⟩
theorem rb_ok : rb.Ok := ⟨by decide, by decide, by decide, by decide, ⟨by decide, by decide, Bytes.nil, Bytes.nil⟩, (fun a h => by cases h), (fun a h => by cases h)⟩
set_option maxHeartbeats 8000000 in
theorem known_any (w : World) : Calls Try.prog 9 #[] w fun e w' => e = .returned (.bool true) ∧ Below w.heap.size w w' := by
  have CN := Lib.hid (new_at 18 0 w 18 0 rfl rfl (by decide) (by decide))
  go_enter Try.func9, Try.ntmps9
  go_wp2_with fail
  (with_reducible refine CN.out.mono ?_)
  rintro e w1 ⟨rfl, col, fv, uv, hd, _, hb1⟩
  obtain ⟨g, hg⟩ : ∃ g, w.heap.size = g := ⟨_, rfl⟩
  have d1 : DX w1 (newS w w1) g fv (D00 18) := by rw [← hg]; exact ⟨col, uv, hd⟩
  rw [hg]
  have CW := Lib.hid (new_any d1 0 (d00_few 18) (by decide) (by have h := d00_len 18; unfold Wal.sz; rw [h]; decide))
  have HB1 := Lib.hid hb1
  have HNS := Lib.hid (show ∀ x, newS w w1 x → w.heap.size ≤ x from fun x hx => hx.1)
  clear hd hb1 d1 CN
  go_wp2_with fail
  (with_reducible refine CW.out.mono ?_)
  rintro e w3 ⟨t, S', rfl, X3, d3, m3, n3, t3⟩
  have LG3 : LgAt w3 (fun x => S' x ∨ x = t) t g fv (D0 18) L0 := ⟨S', none, 0, none, 0, X3, d3, World.ownsRow_nil _ _ _ _, World.ownsRow_nil _ _ _ _, n3, (fun k hk => by cases hk), (fun k hk => by cases hk), fun x hx => .inl hx, .inr rfl⟩
  have lv0 : LvOk (D0 18) L0 := by
    have := (run0_ok 18 (by decide) (by decide) (-1)).lv (by decide)
    rwa [d1_no] at this
  have hsz : Wal.sz (D0 18) = 8 := by unfold Wal.sz; rw [d0_len]
  have hE : apE (D0 18) L0 rb 0 = 0 := by
    unfold apE; rw [if_neg (by rw [rb_may]; decide), rb_len, hsz]; rfl
  have CA := append_any LG3 lv0 rb rb_ok _ _ _ _ (rb_in w3) 0 (by decide)
  rw [hE, if_pos rfl, if_pos rfl, show L0.h.ba + (L0.ys.length : Int) = 1 from rfl, show ((0 : Nat) : Int) = 0 from rfl, show rcV rb (.slice none 0 0) (.slice none 0 0) (.slice none 0 0) (.slice none 0 0) = #[.int .u8 1, .int .u32 1, .int .u64 0, .int .u64 0, .int .u32 0, .int .u16 0, .bool false, .bool false, .slice none 0 0, .slice none 0 0, .slice none 0 0, .slice none 0 0] from rfl] at CA
  have HCA := Lib.hid CA
  have HM3 := Lib.hid (show Below w.heap.size w w3 from HB1.out.trans (m3.fr.to_below (fun k hk => HNS.out k hk) HB1.out.size))
  have HT3 := Lib.hid (show ∀ x, S' x ∨ x = t → w.heap.size ≤ x from fun x hx => by
    rcases hx with hx | hx
    · rcases m3.new x hx with h | h
      · exact HNS.out x h
      · have := HB1.out.size; omega
    · have := HB1.out.size; omega)
  have HS8 := Lib.hid hsz
  have HLV := Lib.hid lv0
  clear X3 d3 m3 n3 t3 LG3 lv0 hsz hE CA
  go_wp2_with fail
  (with_reducible refine HCA.out.mono ?_)
  rintro e w4 ⟨rfl, LG4, F4⟩
  have lv4 : LvOk (D0 18) (apL L0 rb) := by
    have h := (run0_ok 18 (by decide) (by decide) (-1))
    rw [d1_no] at h
    obtain ⟨rs', ok⟩ := h.step (o := ⟨0, rb, .slice none 0 0, .slice none 0 0, .slice none 0 0, .slice none 0 0, 0, 0, .slice none 0 0, []⟩) (L' := apL L0 rb) (D' := D0 18) (es' := [] ++ [⟨1, rb, (none, 0), (none, 0), (none, 0), (none, 0)⟩]) (by decide) rb_ok (by decide) (.inr (.inr (.inr (.inl ⟨by show (0 : Int) % 11 ≤ 3; decide, rfl, by
      show apE (D0 18) L0 rb 0 = 0
      unfold apE; rw [if_neg (by rw [rb_may]; decide), rb_len, HS8.out]; rfl, rfl, _, rfl, rfl, rfl⟩))))
    exact ok.lv (by decide)
  have hyl : (apL L0 rb).ys.length = 27 := by show ([] ++ encS rb).length = 27; rw [List.nil_append, rb_len]
  have CE := end_lg LG4 lv4
  rw [hyl, show (apL L0 rb).h.ba + ((27 : Nat) : Int) = 28 from rfl] at CE
  have CR := room_lg LG4 lv4
  rw [hyl, HS8.out, show ((8 * 127 - 27 : Nat) : Int) = 989 from rfl] at CR
  have HCE := Lib.hid CE
  have HCR := Lib.hid CR
  have HLG4 := Lib.hid LG4
  have HM4 := Lib.hid (HM3.out.trans (F4.to_below (fun k hk => HT3.out k hk) HM3.out.size))
  have HT4 := Lib.hid (show ∀ x, growS w3 w4 (fun x => S' x ∨ x = t) x → w.heap.size ≤ x from fun x hx => by
    rcases hx with hx | hx
    · exact HT3.out x hx
    · have := HM3.out.size; omega)
  obtain ⟨hgf, c, hcl, hgc⟩ := good0 18 (by decide)
  have HCL := Lib.hid (crash_cl hcl []).1
  have HGC := Lib.hid (show GoodC 18 c L0.h L0.se (strm []) from hgc)
  have HFW := Lib.hid (show (D0 18).Few 100000 from hcl.few.more (by decide))
  clear LG4 lv4 F4 CE CR hyl hcl hgc hgf
  go_upto_region 9 with (first
    | (go_at_call 15; (with_reducible refine HCE.out.mono ?_); rintro er w5 ⟨rfl, rfl⟩)
    | (go_at_call 22; (with_reducible refine HCR.out.mono ?_); rintro er w5 ⟨rfl, hb5⟩))
  have LG5 := HLG4.out.later hb5
  have CC := Lib.hid (lg_crash LG5 (.slice none 0 0) [] (SS.nil _ _) (fun x hx => by cases hx) (by decide) HFW.out)
  have HM5 := Lib.hid (HM4.out.trans (hb5.mono HM4.out.size))
  clear LG5 hb5
  go_wp2_with fail
  (with_reducible refine CC.out.mono ?_)
  rintro e w6 ⟨rfl, LG6, F6⟩
  obtain ⟨S6, A6, c6, At6, ct6, h1, d6, h3, h4, h5, h6, h7, h8, h9⟩ := LG6
  have CO := Lib.hid (open_good d6 HCL.out HGC.out (fun r hr => by cases hr) (by decide))
  have HM6 := Lib.hid (HM5.out.trans (F6.to_below (fun k hk => HT4.out k hk) HM5.out.size))
  have HT6 := Lib.hid (show ∀ x, S6 x → w.heap.size ≤ x from fun x hx => by
    rcases h8 x hx with hx | hx
    · exact HT4.out x hx
    · have := HM5.out.size; omega)
  clear h1 d6 h3 h4 h5 h6 h7 h8 h9 F6
  go_wp2_with fail
  (with_reducible refine CO.out.mono ?_)
  rintro e w7 ⟨t2, D7, rfl, LG7, k7, F7, ht7⟩
  have lv7 : LvOk D7 ⟨L0.h, L0.se, strm [], begs [], (strm []).length⟩ := by
    have := (run0_ok 18 (by decide) (by decide) (-1)).lv (by decide)
    exact LvOk.dev this (by rw [k7.len, d1_f, d0_len])
  have CE7 := end_lg LG7 lv7
  have CB7 := base_lg LG7
  rw [show (Lv.mk L0.h L0.se (strm []) (begs []) (strm []).length).h.ba + (((Lv.mk L0.h L0.se (strm []) (begs []) (strm []).length).ys.length : Nat) : Int) = 1 from rfl] at CE7
  rw [show (Lv.mk L0.h L0.se (strm []) (begs []) (strm []).length).h.ba = 1 from rfl] at CB7
  have H7 := Lib.hid CE7
  have H8 := Lib.hid CB7
  have HM7 := Lib.hid (HM6.out.trans (F7.to_below (fun k hk => HT6.out k hk) HM6.out.size))
  clear LG7 k7 F7 ht7 lv7 CE7 CB7
  go_wp2_with (first
    | (go_at_call 15; (with_reducible refine H7.out.mono ?_); rintro er w8 ⟨rfl, rfl⟩)
    | (go_at_call 19; (with_reducible refine H8.out.mono ?_); rintro er w8 ⟨rfl, rfl⟩))
  go_ret
  exact ⟨rfl, HM7.out⟩
end Go.Proofs.Yteggcehjpfmikaa.Wal
