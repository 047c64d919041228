import Derived.Test.YtpndcpmfcajmdaaLk8
/- Locks: waiting. -/
namespace Go.Proofs.Ytpndcpmfcajmdaa.Lock
open Go.ChangeShapes Go.WideShapes Go.ChangeAt Go.RowKit Go.IntWalk Go.Proofs.Mem Go.Proofs.Each Law
set_option linter.unusedVariables false
set_option linter.unusedSimpArgs false
/-- where one comes into the line -/
def insP (h : Int → Option Int) (p : Pl) (l : List Pl) : List Pl :=
  if (h p.t).isSome then l.takeWhile (fun x => (h x.t).isSome) ++ p :: l.dropWhile (fun x => (h x.t).isSome) else l ++ [p]
theorem take_while_at {P : Pl → Bool} : ∀ {l : List Pl} {k : Nat} {x : Pl}, l[k]? = some x → P x = false → (∀ y ∈ l.take k, P y = true) → l.takeWhile P = l.take k ∧ l.dropWhile P = l.drop k
  | [], k, x, h, _, _ => by simp at h
  | y :: l, 0, x, h, hp, _ => by
    simp at h; subst h
    simp [hp]
  | y :: l, k + 1, x, h, hp, ha => by
    have hy := ha y (by simp)
    obtain ⟨h1, h2⟩ := take_while_at (l := l) (k := k) (x := x) (by simpa using h) hp (fun z hz => ha z (by simp [hz]))
    simp [hy, h1, h2]
theorem take_while_all {P : Pl → Bool} {l : List Pl} (h : ∀ x ∈ l, P x = true) : l.takeWhile P = l ∧ l.dropWhile P = [] := by
  induction l with
  | nil => simp
  | cons y l ih =>
    have hy := h y (by simp)
    obtain ⟨h1, h2⟩ := ih (fun z hz => h z (by simp [hz]))
    simp [hy, h1, h2]
/-- the line's place, by what IndexFunc answers -/
theorem insP_none {h : Int → Option Int} {p : Pl} {l : List Pl} (hp : (h p.t).isSome = false) : insP h p l = l.take l.length ++ p :: l.drop l.length := by
  unfold insP; rw [hp]; simp
theorem insP_all {h : Int → Option Int} {p : Pl} {l : List Pl} (hp : (h p.t).isSome = true) (ha : ∀ x ∈ l, (!(h x.t).isSome) = false) : insP h p l = l.take l.length ++ p :: l.drop l.length := by
  obtain ⟨h1, h2⟩ := take_while_all (P := fun x => (h x.t).isSome) (l := l) (fun x hx => by simpa using ha x hx)
  unfold insP; rw [if_pos hp, h1, h2]; simp
theorem insP_at {h : Int → Option Int} {p : Pl} {l : List Pl} {k : Nat} {x : Pl} (hp : (h p.t).isSome = true) (hx : l[k]? = some x) (hq : (!(h x.t).isSome) = true) (ha : ∀ y ∈ l.take k, (!(h y.t).isSome) = false) : insP h p l = l.take k ++ p :: l.drop k := by
  obtain ⟨h1, h2⟩ := take_while_at (P := fun x => (h x.t).isSome) hx (by simpa using hq) (fun y hy => by simpa using ha y hy)
  unfold insP; rw [if_pos hp, h1, h2]
def WaitOut (w w' : World) (e m base : Nat) (lv : Value) (l' : List Pl) : Prop := ∃ lv', Box w' e #[.map (some m), lv'] 86 ∧ LnAt w' base lv' l' ∧ Fr (fun x => lv.ownBlock = some x ∨ x = e) w w' ∧ (lv'.ownBlock = lv.ownBlock ∨ ∀ k, lv'.ownBlock = some k → w.heap.size ≤ k)
set_option maxRecDepth 100000 in
set_option maxHeartbeats 8000000 in
theorem wait_any (w : World) (e m n base : Nat) (lv : Value) (h : Int → Option Int) (l : List Pl) (t md : Int) (hb : Box w e #[.map (some m), lv] 86) (hf : FM KU VM w m n h) (hl : LnAt w base lv l) (hbase : base ≤ w.heap.size) (hle : lv.ownBlock ≠ some e) (hsmall : l.length ≤ 100000) (ht : U32 t) (hok : ∀ x ∈ l, U32 x.t) :
    Calls Try.prog 35 #[.pointer (some ⟨e, 0, none⟩), .agg #[.int .u32 t, .int .u8 md]] w fun r w' => r = .returned (.tuple #[]) ∧ WaitOut w w' e m base lv (insP h ⟨t, md⟩ l) := by
  obtain ⟨A, c, hlv, hc1, hc2⟩ := hl.form
  have b1 := new_ (Below.refl w.heap.size w) (.cells #[.pointer (some ⟨e, 0, none⟩)] 69)
  have s1 : (w.alloc (.cells #[.pointer (some ⟨e, 0, none⟩)] 69)).heap.size = w.heap.size + 1 := by simp
  have b2 := new_ b1 (.cells #[.int .u32 t, .int .u8 md] 72)
  have X0 := (Box.new w #[.pointer (some ⟨e, 0, none⟩)] 69).alloc (.cells #[.int .u32 t, .int .u8 md] 72)
  have X1 := Box.new (w.alloc (.cells #[.pointer (some ⟨e, 0, none⟩)] 69)) #[.int .u32 t, .int .u8 md] 72
  rw [s1] at X1
  have hE := hb.lt
  have hHs := hl.lt
  have XE := hb.later b2
  have XF := hf.later b2
  have XL := hl.later b2
  have s2 : ((w.alloc (.cells #[.pointer (some ⟨e, 0, none⟩)] 69)).alloc (.cells #[.int .u32 t, .int .u8 md] 72)).heap.size = w.heap.size + 1 + 1 := by simp
  obtain ⟨W0, hW0⟩ : ∃ W0, (w.alloc (.cells #[.pointer (some ⟨e, 0, none⟩)] 69)).alloc (.cells #[.int .u32 t, .int .u8 md] 72) = W0 := ⟨_, rfl⟩
  rw [hW0] at b2 X0 X1 XE XF XL s2
  have k1 : W0.cell? ⟨e, 1, none⟩ = some lv := by rw [XE.cell 1]; rfl
  rw [hlv] at k1
  have k0 : W0.cell? ⟨w.heap.size, 0, none⟩ = some (.pointer (some ⟨e, 0, none⟩)) := by rw [X0.cell 0]; rfl
  have k2 : W0.cell? ⟨w.heap.size + 1, 0, none⟩ = some (.int .u32 t) := by rw [X1.cell 0]; rfl
  have CH := Lib.hid (holds_any W0 e m n lv h t XE XF ht)
  have HHS : ∀ b, lv.ownBlock = some b → b < w.heap.size := fun b hb => (hHs b hb).2
  have eg : ∀ args w, (callFunc 52 args).run Try.prog w = .ok (.enter 52 args) w := enters_of Try.func52 (by kernel_rfl) rfl
  have CI := Lib.hid (index_any W0 lv l 52 #[.pointer (some ⟨w.heap.size, 0, none⟩)] (fun x => !(h x.t).isSome) eg XL.ss (fun W x hx hbw => by
    have hs := hbw.size
    exact (wait_1 W x w.heap.size e m n lv h (by omega) ((hbw.cell (p := ⟨w.heap.size, 0, none⟩) (by show w.heap.size < _; omega)).trans k0) (XE.later hbw) (XF.later hbw) (hok x hx)).mono fun _ _ ⟨h1, h2⟩ => ⟨h1, hbw.trans (h2.mono hs)⟩))
  rw [hlv] at CI
  have B0 := Lib.hid (b2 : Below w.heap.size w W0)
  have HX0 := Lib.hid X0
  have HX1 := Lib.hid X1
  have HXE := Lib.hid XE
  have HXL := Lib.hid XL
  have HS2 := Lib.hid s2
  have HLV := Lib.hid hlv
  have HBE := Lib.hid hE
  have HBB := Lib.hid hbase
  have HSML := Lib.hid hsmall
  have HHL := Lib.hid HHS
  have HLE := Lib.hid hle
  have hn63 : (l.length : Int) ≤ 9223372036854775807 := by omega
  have hge0 : decide ((0 : Int) ≤ -1) = false := rfl
  obtain ⟨q, hq⟩ : ∃ q, (h t).isSome = q := ⟨_, rfl⟩
  rw [hq] at CH
  have HQ := Lib.hid hq
  have hW0' := Lib.hid hW0
  clear b1 b2 s1 X0 X1 XE XF XL s2 hE hHs HHS hle hb hf hl hbase hsmall hok eg hlv hc1 hc2 hq ht
  obtain ⟨N, hN⟩ : ∃ N, l.length = N := ⟨_, rfl⟩
  rw [hN] at k1 CI hn63
  have HN := Lib.hid hN
  clear hN
  have FIN : ∀ (k : Nat), k ≤ N → insP h ⟨t, md⟩ l = l.take k ++ ⟨t, md⟩ :: l.drop k → Hid (∃ k, k ≤ l.length ∧ insP h ⟨t, md⟩ l = l.take k ++ ⟨t, md⟩ :: l.drop k) := fun k h1 h2 => Lib.hid ⟨k, by rw [HN.out]; exact h1, h2⟩
  obtain ⟨x0, hx0⟩ : ∃ x0, w.heap.size = x0 := ⟨_, rfl⟩
  obtain ⟨x1, hx1⟩ : ∃ x1, x0 + 1 = x1 := ⟨_, rfl⟩
  rw [hx0] at CI HX0 HX1 HBE HHL k0 k2 HS2
  rw [hx1] at HX1 k2
  have HX01 := Lib.hid (⟨hx0, hx1⟩ : w.heap.size = x0 ∧ x0 + 1 = x1)
  go_enter Try.func35, Try.ntmps35
  go_upto_region 1 with fail
  clear hW0 hx0 hx1
  cases q
  case' false =>
    go_wp2_with (first
      | (go_at_call 48; (with_reducible refine CH.out.mono ?_); rintro er wr ⟨rfl, rfl⟩))
    have FK := FIN N (Nat.le_refl _) (by rw [← HN.out]; exact insP_none HQ.out)
    obtain ⟨k, hk⟩ : ∃ k, N = k := ⟨_, rfl⟩
    have HK := Lib.hid (show k ≤ l.length by rw [HN.out, hk]; exact Nat.le_refl _)
    have HIN := Lib.hid (show insP h ⟨t, md⟩ l = l.take k ++ ⟨t, md⟩ :: l.drop k by rw [← hk, ← HN.out]; exact insP_none HQ.out)
    obtain ⟨w1, hw1⟩ : ∃ w1, W0 = w1 := ⟨_, rfl⟩
    have hbW := Lib.hid (show Below W0.heap.size W0 w1 by rw [hw1]; exact Below.refl _ _)
    rw [hk, hw1]
    clear hk hw1
  case' true =>
    go_wp2_with (first
      | (go_at_call 48; (with_reducible refine CH.out.mono ?_); rintro er wr ⟨rfl, rfl⟩))
    obtain ⟨w1, hw1⟩ : ∃ w1, w1 = W0 := ⟨_, rfl⟩
    go_wp2_with fail
    (with_reducible refine CI.out.mono ?_)
    rintro er wr ⟨⟨r, rfl, hr⟩, hbr⟩
    have hbW := Lib.hid hbr
    clear hbr hw1 w1
    obtain ⟨w1, rfl⟩ : ∃ w1, w1 = wr := ⟨_, rfl⟩
    rcases hr with ⟨rfl, hr⟩ | ⟨k, x, rfl, hx, hp, ha⟩
    case' inl =>
      have HIN0 := Lib.hid (insP_all (p := ⟨t, md⟩) HQ.out hr)
      clear hr
      go_upto_region 6 with fail
      obtain ⟨k, hk⟩ : ∃ k, N = k := ⟨_, rfl⟩
      have HK := Lib.hid (show k ≤ l.length by rw [HN.out, hk]; exact Nat.le_refl _)
      have HIN := Lib.hid (show insP h ⟨t, md⟩ l = l.take k ++ ⟨t, md⟩ :: l.drop k by rw [← hk, ← HN.out]; exact HIN0.out)
      rw [hk]
      clear hk HIN0
    case' inr =>
      have HIN := Lib.hid (insP_at (p := ⟨t, md⟩) HQ.out hx hp ha)
      have HK := Lib.hid (show k ≤ l.length by have := (List.getElem?_eq_some_iff.1 hx).1; omega)
      have d1 : decide ((0 : Int) ≤ (k : Int)) = true := by simp
      clear hx hp ha
      go_upto_region 6 with fail
  all_goals
    have HRL := Lib.hid (show ∀ b, lv.ownBlock = some b → b < x0 ∧ b < w1.heap.size ∧ x0 < w1.heap.size ∧ x1 < w1.heap.size ∧ b < x1 from fun b hb => by have := HHL.out b hb; have := hbW.out.size; have := HS2.out; have := HX01.out.2; omega)
    have HEL := Lib.hid (show e < x0 ∧ e < x1 ∧ e < w1.heap.size by have := HBE.out; have := hbW.out.size; have := HS2.out; have := HX01.out.2; omega)
    have BX0 := Lib.hid (HX0.out.later hbW.out)
    have BX1 := Lib.hid (HX1.out.later hbW.out)
    have BXE := Lib.hid (HXE.out.later hbW.out)
    have HLN := Lib.hid (HXL.out.later hbW.out)
    have HBS := Lib.hid (show base ≤ w1.heap.size by have := HBB.out; have := hbW.out.size; have := HS2.out; have := HX01.out; omega)
    have HSM := Lib.hid (show l.length ≤ 100000 from HSML.out)
    have HB1 := Lib.hid (show Below w.heap.size w w1 from B0.out.trans (hbW.out.mono B0.out.size))
    have HRG : lv.ownBlock ≠ some e := HLE.out
    clear HX0 HX1 HXE HXL hbW HHL HBE HS2 HBB HSML CI CH k0 k1 k2 FIN hge0
    refine wp_region_app (by kernel_rfl) (by kernel_rfl) lv.ownBlock e 8 11 86 (fun v => #[.map (some m), v]) [(fun v _ => v = .pointer (some ⟨e, 0, none⟩)), (fun v _ => v = .pointer (some ⟨e, 0, none⟩)), (fun v _ => v = .pointer (some ⟨e, 0, none⟩)), (fun v _ => v = .pointer (some ⟨e, 1, none⟩)), (fun v _ => v = lv), (fun v _ => v = .int .i64 (k : Nat)), (fun v _ => v = .agg #[.int .u32 t, .int .u8 md]), (fun v W => ∃ g1, v = .slice (some ⟨g1, 0, none⟩) 1 1 ∧ w1.heap.size ≤ g1 ∧ Box W g1 #[.int .u32 t, .int .u8 md] 72), (fun v W => LnAt W base v (l.take k ++ ⟨t, md⟩ :: l.drop k) ∧ (v.ownBlock = lv.ownBlock ∨ ∀ k, v.ownBlock = some k → w1.heap.size ≤ k)), (fun v _ => v = .pointer (some ⟨e, 0, none⟩)), (fun v _ => v = .pointer (some ⟨e, 1, none⟩)), (fun v _ => v = undef)] (by decide) (by intro o ho; injection ho with ho; subst ho; exact ⟨⟨8, .data⟩, by simp, rfl, rfl⟩) HRG ?_ (fun vals => ?_) (fun vals W hfr hbx hall _ => ?_) (by decide)
    · intro j v W W' hj hsz hf h
      match j, hj, h with
      | 0, _, h => exact h
      | 1, _, h => exact h
      | 2, _, h => exact h
      | 3, _, h => exact h
      | 4, _, h => exact h
      | 5, _, h => exact h
      | 6, _, h => exact h
      | 7, _, h => obtain ⟨g1, e1, e2, e3⟩ := h; exact ⟨g1, e1, e2, e3.fr hf (fun hk => by rcases hk with ⟨_, h1⟩ | h1; (have := HRL.out _ h1; omega); (have := HEL.out; omega))⟩
      | 8, _, h => exact ⟨h.1.fr hf (fun b hb hs => by rcases hs with ⟨h1, _⟩ | h1; (exact h1 rfl); (rcases h.2 with h2 | h2; (rw [h2] at hb; exact HRG (by rw [hb, h1])); (have := h2 b hb; have := HEL.out; omega))), h.2⟩
      | 9, _, h => exact h
      | 10, _, h => exact h
      | 11, hj, _ => exact absurd rfl hj
      | _ + 12, _, _ => trivial
    · simp only [ObL, Act.put, List.setIfInBounds_toArray, List.set_cons_succ, List.set_cons_zero]
      refine ⟨?_, ?_, ?_, ?_, ?_, ?_, ?_, ?_, ?_, ?_, ?_, ?_, trivial⟩
      · intro L W hL hk hC hw
        clear hw
        have k0 : W.cell? ⟨x0, 0, none⟩ = some (.pointer (some ⟨e, 0, none⟩)) := by rw [(BX0.out.fr hC (fun hk => by rcases hk with ⟨_, h1⟩ | ⟨_, h1⟩; (have := HRL.out _ h1; omega); (have := HEL.out; omega))).cell]; rfl
        clear hL hC hk
        refine step_plain rfl ?_
        go_simp
        first | exact ⟨Ra.same _, Fa.val (by decide) rfl rfl⟩ | exact ⟨_, rfl, Ra.same _, Fa.val (by decide) rfl rfl⟩
      · intro L W hL hk hC hw
        clear hw
        have k0 : W.cell? ⟨x0, 0, none⟩ = some (.pointer (some ⟨e, 0, none⟩)) := by rw [(BX0.out.fr hC (fun hk => by rcases hk with ⟨_, h1⟩ | ⟨_, h1⟩; (have := HRL.out _ h1; omega); (have := HEL.out; omega))).cell]; rfl
        clear hL hC hk
        refine step_plain rfl ?_
        go_simp
        first | exact ⟨Ra.same _, Fa.val (by decide) rfl rfl⟩ | exact ⟨_, rfl, Ra.same _, Fa.val (by decide) rfl rfl⟩
      · intro L W hL hk hC hw
        have f1 : vals 1 = .pointer (some ⟨e, 0, none⟩) := Fa.get (hw ⟨1, .data⟩ (by simp) rfl) (by decide)
        clear hw
        clear hL hC hk
        refine step_plain rfl ?_
        go_simp
        first | exact ⟨Ra.same _, Fa.val (by decide) rfl rfl⟩ | exact ⟨_, rfl, Ra.same _, Fa.val (by decide) rfl rfl⟩
      · intro L W hL hk hC hw
        have f2 : vals 2 = .pointer (some ⟨e, 0, none⟩) := Fa.get (hw ⟨2, .data⟩ (by simp) rfl) (by decide)
        clear hw
        clear hL hC hk
        refine step_plain rfl ?_
        go_simp
        first | exact ⟨Ra.same _, Fa.val (by decide) rfl rfl⟩ | exact ⟨_, rfl, Ra.same _, Fa.val (by decide) rfl rfl⟩
      · intro L W hL hk hC hw
        have f3 : vals 3 = .pointer (some ⟨e, 1, none⟩) := Fa.get (hw ⟨3, .data⟩ (by simp) rfl) (by decide)
        clear hw
        have bx := hC.box BXE.out (hL.not_yet hk 11 8 (by decide +kernel)) HRG
        have kc : W.cell? ⟨e, 1, none⟩ = some lv := by rw [bx.cell]; rfl
        clear bx
        clear hL hC hk
        refine step_plain rfl ?_
        go_simp
        first | exact ⟨Ra.same _, Fa.val (by decide) rfl rfl⟩ | exact ⟨_, rfl, Ra.same _, Fa.val (by decide) rfl rfl⟩
      · intro L W hL hk hC hw
        clear hw
        clear hL hC hk
        refine step_plain rfl ?_
        go_simp
        first | exact ⟨Ra.same _, Fa.val (by decide) rfl rfl⟩ | exact ⟨_, rfl, Ra.same _, Fa.val (by decide) rfl rfl⟩
      · intro L W hL hk hC hw
        clear hw
        have bb := BX1.out.fr hC (fun hk => by rcases hk with ⟨_, h1⟩ | ⟨_, h1⟩; (have := HRL.out _ h1; omega); (have := HEL.out; omega))
        have k0 : W.cell? ⟨x1, 0, none⟩ = some (.int .u32 t) := by rw [bb.cell]; rfl
        have k1 : W.cell? ⟨x1, 1, none⟩ = some (.int .u8 md) := by rw [bb.cell]; rfl
        clear bb
        clear hL hC hk
        refine step_plain rfl ?_
        go_simp
        first | exact ⟨Ra.same _, Fa.val (by decide) rfl rfl⟩ | exact ⟨_, rfl, Ra.same _, Fa.val (by decide) rfl rfl⟩
      · intro L W hL hk hC hw
        have f6 : vals 6 = .agg #[.int .u32 t, .int .u8 md] := Fa.get (hw ⟨6, .data⟩ (by simp) rfl) (by decide)
        clear hw
        have hsz := Lib.hid (show w1.heap.size ≤ W.heap.size from hC.size)
        clear hL hC hk
        refine step_plain rfl ?_
        go_simp
        have hz := new_ (Below.refl W.heap.size W) (.cells #[.int .u32 t, .int .u8 md] 72)
        first | exact ⟨Ra.of_below hz, Fa.val (by decide) rfl ⟨_, rfl, hsz.out, Box.new _ _ _⟩⟩ | exact ⟨_, rfl, Ra.of_below hz, Fa.val (by decide) rfl ⟨_, rfl, hsz.out, Box.new _ _ _⟩⟩
      · intro L W hL hk hC hw
        have f4 : vals 4 = lv := Fa.get (hw ⟨4, .data⟩ (by simp) rfl) (by decide)
        have f5 : vals 5 = .int .i64 (k : Nat) := Fa.get (hw ⟨5, .data⟩ (by simp) rfl) (by decide)
        have f7 : ∃ g1, (vals 7) = .slice (some ⟨g1, 0, none⟩) 1 1 ∧ w1.heap.size ≤ g1 ∧ Box W g1 #[.int .u32 t, .int .u8 md] 72 := Fa.get (hw ⟨7, .data⟩ (by simp) rfl) (by decide)
        clear hw
        have hb := hC.below hk (hL.not_yet hk 11 8 (by decide +kernel))
        have ow := HLN.out.later hb
        obtain ⟨g1, e7, hg1, hbx1⟩ := f7
        have hsz := hb.size
        have hne : lv.ownBlock ≠ some g1 := fun h => by have := HRL.out _ h; omega
        have CI := Lib.hid (insert_any W base g1 lv l ⟨t, md⟩ k HK.out (Nat.le_trans HBS.out hsz) ow HSM.out hbx1 hne)
        have HSZ := Lib.hid hsz
        clear hL hC hk hb ow hbx1 hsz hne
        refine step_plain rfl ?_
        go_simp
        (with_reducible refine CI.out.mono ?_)
        rintro e9 w2 ⟨v1, rfl, ho1, hr1⟩
        have hk2 : v1.ownBlock = lv.ownBlock ∨ ∀ k, v1.ownBlock = some k → w1.heap.size ≤ k := hr1.own.imp id (fun ⟨q, h, h2⟩ k hk => by rw [h] at hk; injection hk with hk; have := HSZ.out; omega)
        have hR : Ra lv.ownBlock e 8 11 8 W w2 := hr1.fr.mono (fun x _ h => .inl ⟨rfl, h⟩)
        first | exact ⟨hR, Fa.val (by decide) rfl ⟨ho1, hk2⟩⟩ | exact ⟨_, rfl, hR, Fa.val (by decide) rfl ⟨ho1, hk2⟩⟩
      · intro L W hL hk hC hw
        have f0 : vals 0 = .pointer (some ⟨e, 0, none⟩) := Fa.get (hw ⟨0, .data⟩ (by simp) rfl) (by decide)
        clear hw
        clear hL hC hk
        refine step_plain rfl ?_
        go_simp
        first | exact ⟨Ra.same _, Fa.val (by decide) rfl rfl⟩ | exact ⟨_, rfl, Ra.same _, Fa.val (by decide) rfl rfl⟩
      · intro L W hL hk hC hw
        have f9 : vals 9 = .pointer (some ⟨e, 0, none⟩) := Fa.get (hw ⟨9, .data⟩ (by simp) rfl) (by decide)
        clear hw
        clear hL hC hk
        refine step_plain rfl ?_
        go_simp
        first | exact ⟨Ra.same _, Fa.val (by decide) rfl rfl⟩ | exact ⟨_, rfl, Ra.same _, Fa.val (by decide) rfl rfl⟩
      · intro L W hL hk hC hw
        have f10 : vals 10 = .pointer (some ⟨e, 1, none⟩) := Fa.get (hw ⟨10, .data⟩ (by simp) rfl) (by decide)
        have f8 : LnAt W base (vals 8) (l.take k ++ ⟨t, md⟩ :: l.drop k) ∧ ((vals 8).ownBlock = lv.ownBlock ∨ ∀ k, (vals 8).ownBlock = some k → w1.heap.size ≤ k) := Fa.get (hw ⟨8, .data⟩ (by simp) rfl) (by decide)
        clear hw
        have bx := hC.box BXE.out hk HRG
        obtain ⟨h8, h9⟩ := f8
        obtain ⟨A2, l2, e21, _, _⟩ := h8.form
        obtain ⟨L8, hL8⟩ : ∃ n, (l.take k ++ ⟨t, md⟩ :: l.drop k).length = n := ⟨_, rfl⟩
        rw [hL8] at e21
        clear h8 hL8
        have kc : W.cell? ⟨e, 1, none⟩ = some lv := by rw [bx.cell]; rfl
        have fc := bx.frozen 1
        clear hL hC hk
        refine step_plain rfl ?_
        go_simp
        have hb9 := Box.set_ bx 1 (.slice A2 L8 l2)
        exact ⟨Fr.setCell (Fr.refl _ _) (p := ⟨e, 1, none⟩) (.inl (.inr ⟨rfl, rfl⟩)) _, undef, Fa.last (by decide) (by rw [e21]; exact hb9)⟩
    · simp only [TL, Act.put, List.setIfInBounds_toArray, List.set_cons_succ, List.set_cons_zero]
      have h8 := hall 8 (by decide) (by decide)
      obtain ⟨h9, h10⟩ : LnAt W base (vals 8) (l.take k ++ ⟨t, md⟩ :: l.drop k) ∧ ((vals 8).ownBlock = lv.ownBlock ∨ ∀ k, (vals 8).ownBlock = some k → w1.heap.size ≤ k) := h8
      clear hall
      have HO := Lib.hid (show WaitOut w W e m base lv (insP h ⟨t, md⟩ l) from ⟨vals 8, hbx, by rw [HIN.out]; exact h9, (Fr.of_below HB1.out).trans' hfr (fun i hi hs => hs), h10.imp id (fun h k hk => Nat.le_trans HB1.out.size (h k hk))⟩)
      clear h9 h10 hbx hfr
      go_end0
      exact ⟨rfl, HO.out⟩
end Go.Proofs.Ytpndcpmfcajmdaa.Lock
