import Derived.Test.YtplombkpefacgaaDk4
import Derived.Test.YtplombkpefacgaaEachA
/- Write. -/
namespace Go.Proofs.Ytplombkpefacgaa.Disk
open Go.ChangeShapes Go.WideShapes Go.ChangeAt Go.RowKit Go.IntWalk Go.Proofs.Mem Go.Proofs.Each
set_option linter.unusedVariables false
set_option linter.unusedSimpArgs false
theorem bs_info : (Try.prog.info? 30).map (fun i => (i.zero, i.size, i.bytes)) = some (some (.slice none 0 0), 1, 24) := by kernel_rfl
/-- what a write that is done makes of a sector; of a device, done or not -/
def Se.wr (s : Se) (xs : List Int) : Se := ⟨s.last, s.wait ++ [xs]⟩
def Dv.cnt (D : Dv) : Dv := { D with left := cntL D.lim D.left, dead := cntD D.lim D.left D.dead }
def Dv.wr (D : Dv) (i n : Nat) (s : Se) (xs : List Int) : Dv := if cntB D.lim D.left = true then D.cnt.upd i n (s.wr xs) else D.cnt
theorem DvAt.grow {tS tD : TypeId} {w0 w : World} {S : Nat → Prop} {b : Nat} {D : Dv} {col : Nat → Nat} {fv : Nat → Value} {uv : Nat → List Pl} (h : DvAt tS tD w S b D col fv uv) : DvAt tS tD w (growS w0 w S) b D col fv uv :=
  ⟨h.box, .inl h.here, h.bcol, h.file, h.most, fun g hg => .inl (h.mine g hg), fun g hg => by rcases hg with hg | hg; (exact h.old g hg); (exact hg.2), h.left⟩
theorem DvAt.mono {tS tD : TypeId} {w : World} {S S' : Nat → Prop} {b : Nat} {D : Dv} {col : Nat → Nat} {fv : Nat → Value} {uv : Nat → List Pl} (h : DvAt tS tD w S b D col fv uv) (hs : ∀ x, S x → S' x) (ho : ∀ x, S' x → x < w.heap.size) : DvAt tS tD w S' b D col fv uv :=
  ⟨h.box, hs _ h.here, h.bcol, h.file, h.most, fun g hg => hs _ (h.mine g hg), ho, h.left⟩
theorem cnt_left {lim : Bool} {left : Int} (h : 0 ≤ left ∧ left ≤ 9223372036854775807) : 0 ≤ cntL lim left ∧ cntL lim left ≤ 9223372036854775807 := by unfold cntL; split <;> omega
theorem own_apart {w : World} {b b' s s' n n' : Nat} {e e' : TypeId} {u v : Value} {xs ys : List Value} (h : w.ownsRow b e s u n xs) (h' : w.ownsRow b' e' s' v n' ys) (he : e ≠ e') (k : Nat) (hu : u.ownBlock = some k) : v.ownBlock ≠ some k := fun hv => by
  rcases h.2 with ⟨rfl, _⟩ | ⟨g, cap, cur, rfl, _, hg, _⟩
  · cases hu
  · rcases h'.2 with ⟨rfl, _⟩ | ⟨g', cap', cur', rfl, _, hg', _⟩
    · cases hv
    · injection hu with hu
      injection hv with hv
      simp only at hu hv
      rw [hu] at hg
      rw [hv] at hg'
      rw [hg] at hg'
      injection hg' with hg'
      injection hg' with _ h2 _
      exact he h2
/-- the sector behind it -/
theorem SeAt.wr {w w' : World} {col : Nat → Nat} {k g : Nat} {s : Se} {u v v' x : Value} {vs : List Value} {xs : List Int} (h : SeAt w col k s u v vs) (hgk : col g ≠ k) (hx : xs.length = 128) (hxb : Bytes xs)
    (hf : Fr (fun y => v.ownBlock = some y ∨ y = g) w w') (ho : w'.ownsRow 0 30 1 v' (vs.length + 1) (vs ++ [x])) (hv' : v'.ownBlock = v.ownBlock ∨ ∀ y, v'.ownBlock = some y → w.heap.size ≤ y)
    (hox : w'.ownsRow w.heap.size 5 1 x 128 (xs.map (.int .u8))) : SeAt w' (colN w w' col k) k (s.wr xs) u v' (vs ++ [x]) := by
  have hco : ∀ y, y < w.heap.size → colN w w' col k y = col y := fun y hy => colN_old hy
  have keep : ∀ {z : Value} {ys : List Int}, Hd w col k 5 1 z 128 (ys.map (.int .u8)) → Hd w' (colN w w' col k) k 5 1 z 128 (ys.map (.int .u8)) := fun {z ys} hz =>
    ⟨own_frS hz.1 hf (fun y hy hS => by
      rcases hS with hS | hS
      · exact own_apart hz.1 h.wait.1 (by decide) y hy hS
      · subst hS; exact hgk (hz.2 _ hy)), fun y hy => by rw [hco y (hz.1.lt y hy).2]; exact hz.2 y hy⟩
  have hxn : ∀ y, x.ownBlock = some y → w.heap.size ≤ y ∧ y < w'.heap.size := fun y hy => hox.lt y hy
  have hxs : x.ownBlock ≠ none := by
    rcases hox.2 with ⟨_, h0⟩ | ⟨q, _, _, rfl, _⟩
    · cases h0
    · intro e; cases e
  refine ⟨h.len, ?_, h.byt, ?_, keep h.last, by simp [Se.wr, h.n], ⟨by rw [List.length_append]; exact ho, fun y hy => ?_⟩, ?_, ?_⟩
  · intro y hy
    rcases List.mem_append.1 hy with hy | hy
    · exact h.lens y hy
    · rw [List.mem_singleton.1 hy]; exact hx
  · intro y hy
    rcases List.mem_append.1 hy with hy | hy
    · exact h.byts y hy
    · rw [List.mem_singleton.1 hy]; exact hxb
  · rcases hv' with hv' | hv'
    · rw [hv'] at hy
      rw [hco y (h.wait.1.lt y hy).2]; exact h.wait.2 y hy
    · exact colN_new (hv' y hy) (ho.lt y hy).2
  · intro j a c ha hc
    by_cases hj : j < vs.length
    · rw [List.getElem?_append_left hj] at ha
      have hc' : s.wait[j]? = some c := by
        show s.wait[j]? = some c
        have : (s.wait ++ [xs])[j]? = some c := hc
        rwa [List.getElem?_append_left (by rw [← h.n]; exact hj)] at this
      exact keep (h.row j a c ha hc')
    · have hjl : j = vs.length := by
        have := (List.getElem?_eq_some_iff.1 ha).1
        rw [List.length_append] at this
        simp at this; omega
      subst hjl
      rw [List.getElem?_append_right (Nat.le_refl _), Nat.sub_self] at ha
      have hc' : (s.wait ++ [xs])[vs.length]? = some c := hc
      rw [h.n, List.getElem?_append_right (Nat.le_refl _), Nat.sub_self] at hc'
      simp at ha hc'
      subst ha hc'
      exact ⟨own_lower hox (Nat.zero_le _), fun y hy => colN_new (hxn y hy).1 (hxn y hy).2⟩
  · rw [← List.cons_append]
    refine List.pairwise_append.2 ⟨h.apart, List.pairwise_singleton _ _, fun a ha c hc => ?_⟩
    rw [List.mem_singleton.1 hc]
    intro e
    cases hb : x.ownBlock with
    | none => exact hxs hb
    | some y =>
      rw [hb] at e
      have h1 := (hxn y hb).1
      rcases List.mem_cons.1 ha with rfl | ha
      · have := (h.last.1.lt y e).2; omega
      · obtain ⟨j, hj, rfl⟩ := List.mem_iff_getElem.1 ha
        have := ((h.row j _ _ (List.getElem?_eq_getElem hj) (List.getElem?_eq_getElem (by rw [← h.n]; exact hj))).1.lt y e).2
        omega
theorem set_same (C : Array Value) (i : Nat) (x : Value) (h : C[i]? = some x) : C.setIfInBounds i x = C := by
  apply Array.ext
  · simp
  · intro j h1 h2
    rw [Array.getElem_setIfInBounds]
    split
    · rename_i e; subst e
      rw [Array.getElem?_eq_getElem h2] at h
      exact (Option.some.inj h).symm
    · rfl
set_option maxRecDepth 100000 in
set_option maxHeartbeats 8000000 in
theorem write_yes {w : World} {S : Nat → Prop} {b : Nat} {D : Dv} {col : Nat → Nat} {fv : Nat → Value} {uv : Nat → List Pl} (h : DA w S b D col fv uv) (i : Nat) (hi : i < 2) (n : Nat) (s : Se) (hs : (D.f i)[n]? = some s) (hw : s.wait.length ≤ 100000) (N : Int) (hN : N = n)
    (dv : Value) (xs : List Int) (hdf : ∀ w', Fr S w w' → IR w' w'.heap.size .u8 dv xs) (hxl : xs.length = 128) (hxb : Bytes xs) :
    Calls Try.prog 27 #[.pointer (some ⟨b, 0, none⟩), .int .u8 i, .int .i64 N, dv] w fun e w' => e = .returned (.int .u16 0) ∧ (∃ col' uv', DA w' (growS w w' S) b (D.wr i n s xs) col' fv uv') ∧ Fr S w w' := by
  subst hN
  have hn : n < (D.f i).length := (List.getElem?_eq_some_iff.1 hs).1
  obtain ⟨g, cap, C, p, s', sp⟩ := (h.file i hi).spot n hn
  obtain rfl : s' = s := Option.some.inj (sp.hs.symm.trans hs)
  obtain ⟨j0, hj0, hj1, hj2, hj3⟩ := info_parts bs_info
  have AT := Lib.hid (at_yes w b fv D.lim D.left D.dead h.box i hi g _ cap sp.hv n hn (h.most i hi) sp.hcap (n : Int) rfl)
  have CT := Lib.hid (counts_any w b fv D.lim D.left D.dead h.box h.left)
  have hd := hdf w (Fr.refl _ _)
  obtain ⟨Ad, cd, ed, hld, hcd⟩ := hd.form
  rw [hxl] at ed
  subst ed
  have HH := Lib.hid h
  have SP := Lib.hid sp
  have HDF := Lib.hid hdf
  have HXL := Lib.hid hxl
  have HXB := Lib.hid hxb
  have HWL := Lib.hid hw
  have gb : g ≠ b := fun e => by have h1 := h.bcol; have h2 := sp.hcol; rw [e] at h2; rw [h1] at h2; unfold fc at h2; omega
  obtain ⟨q, hq⟩ : ∃ q, q = cntB D.lim D.left := ⟨_, rfl⟩
  rw [← hq] at CT
  have HQ := Lib.hid hq
  clear hs hd hdf hxl hxb hld hcd h sp hq hw
  go_enter Try.func27, Try.ntmps27
  go_wp2_with fail
  (with_reducible refine AT.out.mono ?_)
  rintro e w0 ⟨rfl, rfl⟩
  go_wp2_with fail
  (with_reducible refine CT.out.mono ?_)
  rintro e w1 ⟨rfl, hb1, hf1⟩
  have h1 := HH.out.head hf1 D.lim _ _ (cnt_left HH.out.left) hb1
  have H1 := Lib.hid h1
  have F1 := Lib.hid hf1
  clear h1 hb1
  cases q
  case false =>
    go_wp2
    go_ret
    refine ⟨rfl, ⟨col, uv, ?_⟩, F1.out.mono (fun k _ hk => by rw [hk]; exact HH.out.here)⟩
    unfold Dv.wr
    rw [if_neg (by rw [← HQ.out]; decide)]
    exact H1.out.grow
  case true =>
    have hsec := SP.out.sec.fr hf1 (fun x hx e => by rw [e, HH.out.bcol]; unfold fc; omega) (fun _ _ => rfl)
    have bx1 := SP.out.box.fr hf1 gb
    obtain ⟨Av, cv, ev, hlv⟩ := hsec.form_v
    obtain ⟨vs, hvs⟩ : ∃ vs, vs = p.2.2 := ⟨_, rfl⟩
    rw [← hvs] at ev hlv hsec
    obtain ⟨V, hV⟩ : ∃ V, V = vs.length := ⟨_, rfl⟩
    rw [← hV] at ev hlv
    have HVB := Lib.hid (show V ≤ 100000 by have := hsec.n; have := HWL.out; omega)
    have C1 := Lib.hid (show C[2 * n + 1]? = some (.slice Av V cv) by rw [← ev]; exact SP.out.c1)
    have BX1 := Lib.hid bx1
    have OW1 := Lib.hid (show w1.ownsRow 0 30 1 (.slice Av V cv) V vs by have := hsec.wait.1; rw [ev, ← hV] at this; exact this)
    have HRG : (Value.slice Av V cv).ownBlock ≠ some g := fun e => by
      have h2 := hsec.wait.2 g (by rw [ev]; exact e)
      have h3 := SP.out.hcol
      omega
    have HRL := Lib.hid (show ∀ k, (Value.slice Av V cv).ownBlock = some k → k < w1.heap.size from fun k e => (OW1.out.lt k e).2)
    have HD1 := Lib.hid (show IR w1 w1.heap.size .u8 (.slice Ad 128 cd) xs from HDF.out w1 (F1.out.mono (fun k _ hk => by rw [hk]; exact HH.out.here)))
    have SEC := Lib.hid hsec
    have EV := Lib.hid ev
    have HVS := Lib.hid hvs
    have HVL := Lib.hid hV
    clear hf1 hsec bx1 ev hvs hV hlv
    go_wp2
    refine wp_region_app (by kernel_rfl) (by kernel_rfl) (Value.slice Av V cv).ownBlock g 8 11 68 (fun v => C.setIfInBounds (2 * n + 1) v) [(fun v _ => v = .pointer (some ⟨g, 2 * n, none⟩)), (fun v _ => v = .pointer (some ⟨g, 2 * n, none⟩)), (fun v _ => v = .pointer (some ⟨g, 2 * n, none⟩)), (fun v _ => v = .pointer (some ⟨g, 2 * n + 1, none⟩)), (fun v _ => v = .slice Av V cv), (fun v _ => v = .slice Ad 128 cd), (fun v W => W.ownsRow w1.heap.size 5 1 v 128 (xs.map (.int .u8))), (fun v W => ∃ g1, v = .slice (some ⟨g1, 0, none⟩) 1 1 ∧ w1.heap.size ≤ g1 ∧ ∃ x, Box W g1 #[x] 30 ∧ W.ownsRow w1.heap.size 5 1 x 128 (xs.map (.int .u8))), (fun v W => ∃ x, W.ownsRow 0 30 1 v (V + 1) (vs ++ [x]) ∧ W.ownsRow w1.heap.size 5 1 x 128 (xs.map (.int .u8)) ∧ (v.ownBlock = (Value.slice Av V cv).ownBlock ∨ ∀ k, v.ownBlock = some k → w1.heap.size ≤ k)), (fun v _ => v = .pointer (some ⟨g, 2 * n, none⟩)), (fun v _ => v = .pointer (some ⟨g, 2 * n + 1, none⟩)), (fun v _ => v = undef)] (by decide) (by intro o ho; injection ho with ho; subst ho; exact ⟨⟨8, .data⟩, by simp, rfl, rfl⟩) HRG ?_ (fun vals => ?_) (fun vals W hfr hbx hall _ => ?_) (by decide)
    · intro j v W W' hj hsz hf h
      match j, hj, h with
      | 0, _, h => exact h
      | 1, _, h => exact h
      | 2, _, h => exact h
      | 3, _, h => exact h
      | 4, _, h => exact h
      | 5, _, h => exact h
      | 6, _, h => exact own_frS h hf (fun k hk hs => by have := (h.lt k hk).1; rcases hs with ⟨_, h1⟩ | h1; (have := HRL.out _ h1; omega); (have := BX1.out.lt; omega))
      | 7, _, h => obtain ⟨g1, e1, e2, x, e3, e4⟩ := h; exact ⟨g1, e1, e2, x, e3.fr hf (fun hk => by rcases hk with ⟨_, h1⟩ | h1; (have := HRL.out _ h1; omega); (have := BX1.out.lt; omega)), own_frS e4 hf (fun k hk hs => by have := (e4.lt k hk).1; rcases hs with ⟨_, h1⟩ | h1; (have := HRL.out _ h1; omega); (have := BX1.out.lt; omega))⟩
      | 8, _, h => obtain ⟨x, e1, e2, e3⟩ := h; exact ⟨x, own_frS e1 hf (fun k hk hs => by rcases hs with ⟨h1, _⟩ | h1; (exact h1 rfl); (subst h1; rcases e3 with h3 | h3; (rw [h3] at hk; exact HRG hk); (have := h3 _ hk; have := BX1.out.lt; omega))), own_frS e2 hf (fun k hk hs => by have := (e2.lt k hk).1; rcases hs with ⟨h1, _⟩ | h1; (exact h1 rfl); (have := BX1.out.lt; omega)), e3⟩
      | 9, _, h => exact h
      | 10, _, h => exact h
      | 11, hj, _ => exact absurd rfl hj
      | _ + 12, _, _ => trivial
    · simp only [ObL, Act.put, List.setIfInBounds_toArray, List.set_cons_succ, List.set_cons_zero]
      refine ⟨?_, ?_, ?_, ?_, ?_, ?_, ?_, ?_, ?_, ?_, ?_, ?_, trivial⟩
      · intro L W hL hk hC hw
        clear hw
        clear hL hC hk
        refine step_plain rfl ?_
        go_simp
        first | exact ⟨Ra.same _, Fa.val (by decide) rfl rfl⟩ | exact ⟨_, rfl, Ra.same _, Fa.val (by decide) rfl rfl⟩
      · intro L W hL hk hC hw
        clear hw
        clear hL hC hk
        refine step_plain rfl ?_
        go_simp
        first | exact ⟨Ra.same _, Fa.val (by decide) rfl rfl⟩ | exact ⟨_, rfl, Ra.same _, Fa.val (by decide) rfl rfl⟩
      · intro L W hL hk hC hw
        have f1 : vals 1 = .pointer (some ⟨g, 2 * n, none⟩) := Fa.get (hw ⟨1, .data⟩ (by simp) rfl) (by decide)
        clear hw
        clear hL hC hk
        refine step_plain rfl ?_
        go_simp
        first | exact ⟨Ra.same _, Fa.val (by decide) rfl rfl⟩ | exact ⟨_, rfl, Ra.same _, Fa.val (by decide) rfl rfl⟩
      · intro L W hL hk hC hw
        have f2 : vals 2 = .pointer (some ⟨g, 2 * n, none⟩) := Fa.get (hw ⟨2, .data⟩ (by simp) rfl) (by decide)
        clear hw
        clear hL hC hk
        refine step_plain rfl ?_
        go_simp
        first | exact ⟨Ra.same _, Fa.val (by decide) rfl rfl⟩ | exact ⟨_, rfl, Ra.same _, Fa.val (by decide) rfl rfl⟩
      · intro L W hL hk hC hw
        have f3 : vals 3 = .pointer (some ⟨g, 2 * n + 1, none⟩) := Fa.get (hw ⟨3, .data⟩ (by simp) rfl) (by decide)
        clear hw
        have bx := hC.box BX1.out (hL.not_yet hk 11 8 (by decide +kernel)) HRG
        have kc : W.cell? ⟨g, 2 * n + 1, none⟩ = some (.slice Av V cv) := by rw [bx.cell]; exact C1.out
        clear hL hC hk bx
        refine step_plain rfl ?_
        go_simp
        first | exact ⟨Ra.same _, Fa.val (by decide) rfl rfl⟩ | exact ⟨_, rfl, Ra.same _, Fa.val (by decide) rfl rfl⟩
      · intro L W hL hk hC hw
        clear hw
        clear hL hC hk
        refine step_plain rfl ?_
        go_simp
        first | exact ⟨Ra.same _, Fa.val (by decide) rfl rfl⟩ | exact ⟨_, rfl, Ra.same _, Fa.val (by decide) rfl rfl⟩
      · intro L W hL hk hC hw
        have f5 : vals 5 = .slice Ad 128 cd := Fa.get (hw ⟨5, .data⟩ (by simp) rfl) (by decide)
        clear hw
        have hb := hC.below (hL.not_yet hk 8 8 (by decide +kernel)) (hL.not_yet hk 11 8 (by decide +kernel))
        have hsz := hb.size
        have CL := Lib.hid (clone_any _ xs W W.heap.size ((HD1.out.below hb).more hb.size) (Nat.le_refl _) (by have := HXL.out; omega))
        clear hL hC hk hb
        refine step_plain rfl ?_
        go_simp
        (with_reducible refine CL.out.mono ?_)
        rintro e w8 ⟨u, rfl, hu, hb8⟩
        have hu2 := own_len (own_lower hu hsz) HXL.out
        first | exact ⟨Ra.of_below hb8, Fa.val (by decide) rfl hu2⟩ | exact ⟨_, rfl, Ra.of_below hb8, Fa.val (by decide) rfl hu2⟩
      · intro L W hL hk hC hw
        have f6 : W.ownsRow w1.heap.size 5 1 (vals 6) 128 (xs.map (.int .u8)) := Fa.get (hw ⟨6, .data⟩ (by simp) rfl) (by decide)
        clear hw
        have hsz := Lib.hid (show w1.heap.size ≤ W.heap.size from hC.size)
        obtain ⟨A6, c6, e6⟩ := own_slice' f6
        rw [e6] at f6
        have F6 := Lib.hid f6
        clear hL hC hk f6
        refine step_plain rfl ?_
        go_simp
        have hz := new_ (Below.refl W.heap.size W) (.cells #[.slice A6 128 c6] 30)
        first | exact ⟨Ra.of_below hz, Fa.val (by decide) rfl ⟨_, rfl, hsz.out, _, Box.new _ _ _, own_below F6.out hz⟩⟩ | exact ⟨_, rfl, Ra.of_below hz, Fa.val (by decide) rfl ⟨_, rfl, hsz.out, _, Box.new _ _ _, own_below F6.out hz⟩⟩
      · intro L W hL hk hC hw
        have f4 : vals 4 = .slice Av V cv := Fa.get (hw ⟨4, .data⟩ (by simp) rfl) (by decide)
        have f7 : ∃ g1, (vals 7) = .slice (some ⟨g1, 0, none⟩) 1 1 ∧ w1.heap.size ≤ g1 ∧ ∃ x, Box W g1 #[x] 30 ∧ W.ownsRow w1.heap.size 5 1 x 128 (xs.map (.int .u8)) := Fa.get (hw ⟨7, .data⟩ (by simp) rfl) (by decide)
        clear hw
        have hb := hC.below hk (hL.not_yet hk 11 8 (by decide +kernel))
        have ow := own_below OW1.out hb
        obtain ⟨g1, e7, hg1, x, hbx1, hx1⟩ := f7
        obtain ⟨Ax, cx, ex⟩ := own_slice' hx1
        subst ex
        clear hL hC hk
        refine step_plain rfl ?_
        refine wp_push W _ _ _ rfl 0 30 j0 _ 1 24 Try.underlying35 hj0 hj1 hj2 hj3 rfl (by decide) [.slice Ax 128 cx] rfl (by intro u hu; simp only [List.mem_singleton] at hu; subst hu; rfl) (.slice Av V cv) V vs f4 ow g1 _ e7 hbx1 (by simp only [maxLen]; have := HVB.out; omega) (by have := HVB.out; omega) (Nat.zero_le _) ?_
        intro v1 w2 ho1 hgr1 hb1
        have hk1 : (Value.slice Ax 128 cx).ownBlock = none ∨ (Value.slice Ax 128 cx).ownBlock ≠ (Value.slice Av V cv).ownBlock := by
              refine .inr (fun e9 => ?_)
              cases hAx : (Value.slice Ax 128 cx).ownBlock with
              | none => rcases hx1.2 with ⟨_, h0⟩ | ⟨q, _, _, eq, _⟩; (cases h0); (rw [eq] at hAx; cases hAx)
              | some q => have h8 := (hx1.lt q hAx).1; rw [hAx] at e9; have := HRL.out q e9.symm; omega
        have hk2 : v1.ownBlock = (Value.slice Av V cv).ownBlock ∨ ∀ k, v1.ownBlock = some k → w1.heap.size ≤ k := by
              rcases hb1 with h | h
              · exact .inl h
              · exact .inr (fun k hk => by rw [h] at hk; injection hk with hk; have := hb.size; omega)
        exact ⟨_, rfl, Fr.grown (Fr.refl _ _) hgr1 (fun g e => .inl (.inl ⟨rfl, e⟩)), Fa.val (by decide) rfl ⟨_, ho1, hx1.kept hgr1 hk1, hk2⟩⟩
      · intro L W hL hk hC hw
        have f0 : vals 0 = .pointer (some ⟨g, 2 * n, none⟩) := Fa.get (hw ⟨0, .data⟩ (by simp) rfl) (by decide)
        clear hw
        clear hL hC hk
        refine step_plain rfl ?_
        go_simp
        first | exact ⟨Ra.same _, Fa.val (by decide) rfl rfl⟩ | exact ⟨_, rfl, Ra.same _, Fa.val (by decide) rfl rfl⟩
      · intro L W hL hk hC hw
        have f9 : vals 9 = .pointer (some ⟨g, 2 * n, none⟩) := Fa.get (hw ⟨9, .data⟩ (by simp) rfl) (by decide)
        clear hw
        clear hL hC hk
        refine step_plain rfl ?_
        go_simp
        first | exact ⟨Ra.same _, Fa.val (by decide) rfl rfl⟩ | exact ⟨_, rfl, Ra.same _, Fa.val (by decide) rfl rfl⟩
      · intro L W hL hk hC hw
        have f10 : vals 10 = .pointer (some ⟨g, 2 * n + 1, none⟩) := Fa.get (hw ⟨10, .data⟩ (by simp) rfl) (by decide)
        have f8 : ∃ x, W.ownsRow 0 30 1 (vals 8) (V + 1) (vs ++ [x]) ∧ W.ownsRow w1.heap.size 5 1 x 128 (xs.map (.int .u8)) ∧ ((vals 8).ownBlock = (Value.slice Av V cv).ownBlock ∨ ∀ k, (vals 8).ownBlock = some k → w1.heap.size ≤ k) := Fa.get (hw ⟨8, .data⟩ (by simp) rfl) (by decide)
        clear hw
        have bx := hC.box BX1.out hk HRG
        obtain ⟨x, hx8, hxx, hx9⟩ := f8
        obtain ⟨A2, l2, e21⟩ := own_slice' hx8
        have kc : ∃ z, W.cell? ⟨g, 2 * n + 1, none⟩ = some z := ⟨_, by rw [bx.cell]; exact C1.out⟩
        obtain ⟨z, kc⟩ := kc
        have fc := bx.frozen (2 * n + 1)
        clear hL hC hk
        refine step_plain rfl ?_
        go_simp
        have hb9 := Box.set_ bx (2 * n + 1) (.slice A2 (V + 1) l2)
        exact ⟨Fr.setCell (Fr.refl _ _) (p := ⟨g, 2 * n + 1, none⟩) (.inl (.inr ⟨rfl, rfl⟩)) _, undef, Fa.last (by decide) (by rw [e21]; exact hb9)⟩
    · simp only [TL, Act.put, List.setIfInBounds_toArray, List.set_cons_succ, List.set_cons_zero]
      have f8 : ∃ x, W.ownsRow 0 30 1 (vals 8) (V + 1) (vs ++ [x]) ∧ W.ownsRow w1.heap.size 5 1 x 128 (xs.map (.int .u8)) ∧ ((vals 8).ownBlock = (Value.slice Av V cv).ownBlock ∨ ∀ k, (vals 8).ownBlock = some k → w1.heap.size ≤ k) := hall 8 (by decide) (by decide)
      obtain ⟨x, o8, ox, h8⟩ := f8
      have hse := SEC.out.wr (g := g) (by have := SP.out.hcol; omega) HXL.out HXB.out (v' := vals 8) (x := x) (by rw [EV.out]; exact hfr) (by rw [← HVL.out]; exact o8) (by rw [EV.out]; exact h8) ox
      have hsp1 : Spot 68 w1 col (fc i) (fv i) (D.cnt.f i) (uv i) n g cap C p s' := ⟨SP.out.hv, SP.out.hcap, SP.out.hp, SP.out.hs, SP.out.hcol, BX1.out, SP.out.c0, SP.out.c1, by have := SEC.out; rw [HVS.out] at this; exact this, SP.out.size⟩
      have hfin := H1.out.upd hi hsp1 (w' := W) (hfr.mono (fun k hk hS => by
        rcases hS with hS | hS
        · exact .inr (SEC.out.wait.2 k (by rw [EV.out]; exact hS))
        · exact .inl hS)) (s'.wr xs) (p.1, vals 8, vs ++ [x]) (by show Box W g ((C.setIfInBounds (2 * n) p.1).setIfInBounds (2 * n + 1) (vals 8)) _; rw [set_same C _ _ SP.out.c0]; exact hbx) hse
      have HF := Lib.hid hfin
      have HFR := Lib.hid hfr
      clear hfin hse hsp1 o8 ox h8 hbx hfr hall
      go_wp2
      go_ret
      rw [show D.wr i n s' xs = D.cnt.upd i n (s'.wr xs) from if_pos HQ.out.symm]
      have hgw := HF.out.mono (S' := growS w W S) (fun x hx => by rcases hx with hx | hx; (exact .inl hx); (exact .inr ⟨Nat.le_trans F1.out.size hx.1, hx.2⟩)) (fun x hx => by rcases hx with hx | hx; (exact Nat.lt_of_lt_of_le (HH.out.old x hx) (Nat.le_trans F1.out.size HFR.out.size)); (exact hx.2))
      exact ⟨rfl, ⟨_, _, hgw⟩, Fr.trans' (F1.out.mono (fun k _ hk => by rw [hk]; exact HH.out.here)) HFR.out (fun k _ hk => HH.out.mine k (by rcases hk with hk | hk; (have := SEC.out.wait.2 k (by rw [EV.out]; exact hk); omega); (rw [hk, SP.out.hcol]; unfold fc; omega)))⟩
end Go.Proofs.Ytplombkpefacgaa.Disk
