import Derived.Test.YteggcehjpfmikaaBox
import Derived.Test.YteggcehjpfmikaaFr
import Derived.Test.YteggcehjpfmikaaLaw
import Derived.Test.YteggcehjpfmikaaMem
import Derived.Test.YteggcehjpfmikaaMem3
import Derived.Test.YteggcehjpfmikaaWt0
import Derived.Test.YteggcehjpfmikaaWt1
import Derived.BigQuiet
import Derived.ChangeArms
import Derived.Deep.QuietTactic
import Derived.Laws.BitsAllLaws
import Derived.Lib.Hide
import Derived.ProofKit
import Derived.RegionDies
import Derived.WalkKit
namespace Go.Proofs.Yteggcehjpfmikaa.Disk
open Go.ChangeShapes Go.WideShapes Go.ChangeAt Go.RowKit Go.IntWalk Go.Proofs.Mem Go.Proofs.Each
set_option linter.unusedVariables false
set_option linter.unusedSimpArgs false
theorem bs_info : (Try.prog.info? 48).map (fun i => (i.zero, i.size, i.bytes)) = some (some (.slice none 0 0), 1, 24) := by kernel_rfl
def Se.wr (s : Se) (xs : List Int) : Se := ⟨s.last, s.wait ++ [xs]⟩
def Dv.cnt (D : Dv) : Dv := { D with left := cntL D.lim D.left, dead := cntD D.lim D.left D.dead }
def Dv.wr (D : Dv) (i n : Nat) (s : Se) (xs : List Int) : Dv := if cntB D.lim D.left = true then D.cnt.upd i n (s.wr xs) else D.cnt
theorem DvAt.grow {tS tD : TypeId} {w0 w : World} {S : Nat → Prop} {b : Nat} {D : Dv} {col : Nat → Nat} {fv : Nat → Value} {uv : Nat → List Pl} (h : DvAt tS tD w S b D col fv uv) : DvAt tS tD w (growS w0 w S) b D col fv uv :=
  ⟨h.box, .inl h.here, h.bcol, h.file, h.most, fun g hg => .inl (h.mine g hg), fun g hg => by rcases hg with hg | hg; (exact h.old g hg); (exact hg.2), h.left⟩
theorem DvAt.mono {tS tD : TypeId} {w : World} {S S' : Nat → Prop} {b : Nat} {D : Dv} {col : Nat → Nat} {fv : Nat → Value} {uv : Nat → List Pl} (h : DvAt tS tD w S b D col fv uv) (hs : ∀ x, S x → S' x) (ho : ∀ x, S' x → x < w.heap.size) : DvAt tS tD w S' b D col fv uv :=
  ⟨h.box, hs _ h.here, h.bcol, h.file, h.most, fun g hg => hs _ (h.mine g hg), ho, h.left⟩
theorem cnt_left {lim : Bool} {left : Int} (h : 0 ≤ left ∧ left ≤ 9223372036854775807) : 0 ≤ cntL lim left ∧ cntL lim left ≤ 9223372036854775807 := by unfold cntL; split <;> omega
theorem own_apart {w : World} {b b' s s' n n' : Nat} {e e' : TypeId} {u v : Value} {xs ys : List Value} (h : w.ownsRow b e s u n xs) (h' : w.ownsRow b' e' s' v n' ys) (he : e ≠ e') (k : Nat) (hu : u.ownBlock = some k) : v.ownBlock ≠ some k := fun hv => by
  rcases h.2 with ⟨rfl, _⟩ | ⟨g, cap, cur, rfl, _, hg, _⟩
  · cases hu
  · rcases h'.2 with ⟨rfl, _⟩ | ⟨g', cap', cur', rfl, _, hg', _⟩
    · cases hv
    · injection hu with hu
      injection hv with hv
      simp only at hu hv
      rw [hu] at hg
      rw [hv] at hg'
      rw [hg] at hg'
      injection hg' with hg'
      injection hg' with _ h2 _
      exact he h2
theorem SeAt.wr {w w' : World} {col : Nat → Nat} {k g : Nat} {s : Se} {u v v' x : Value} {vs : List Value} {xs : List Int} (h : SeAt w col k s u v vs) (hgk : col g ≠ k) (hx : xs.length = 128) (hxb : Bytes xs)
    (hf : Fr (fun y => v.ownBlock = some y ∨ y = g) w w') (ho : w'.ownsRow 0 48 1 v' (vs.length + 1) (vs ++ [x])) (hv' : v'.ownBlock = v.ownBlock ∨ ∀ y, v'.ownBlock = some y → w.heap.size ≤ y)
    (hox : w'.ownsRow w.heap.size 5 1 x 128 (xs.map (.int .u8))) : SeAt w' (colN w w' col k) k (s.wr xs) u v' (vs ++ [x]) := by
  have hco : ∀ y, y < w.heap.size → colN w w' col k y = col y := fun y hy => colN_old hy
  have keep : ∀ {z : Value} {ys : List Int}, Hd w col k 5 1 z 128 (ys.map (.int .u8)) → Hd w' (colN w w' col k) k 5 1 z 128 (ys.map (.int .u8)) := fun {z ys} hz =>
    ⟨own_frS hz.1 hf (fun y hy hS => by
      rcases hS with hS | hS
      · exact own_apart hz.1 h.wait.1 (by decide) y hy hS
      · subst hS; exact hgk (hz.2 _ hy)), fun y hy => by rw [hco y (hz.1.lt y hy).2]; exact hz.2 y hy⟩
  have hxn : ∀ y, x.ownBlock = some y → w.heap.size ≤ y ∧ y < w'.heap.size := fun y hy => hox.lt y hy
  have hxs : x.ownBlock ≠ none := by
    rcases hox.2 with ⟨_, h0⟩ | ⟨q, _, _, rfl, _⟩
    · cases h0
    · intro e; cases e
  refine ⟨h.len, ?_, h.byt, ?_, keep h.last, by simp [Se.wr, h.n], ⟨by rw [List.length_append]; exact ho, fun y hy => ?_⟩, ?_, ?_⟩
  · intro y hy
    rcases List.mem_append.1 hy with hy | hy
    · exact h.lens y hy
    · rw [List.mem_singleton.1 hy]; exact hx
  · intro y hy
    rcases List.mem_append.1 hy with hy | hy
    · exact h.byts y hy
    · rw [List.mem_singleton.1 hy]; exact hxb
  · rcases hv' with hv' | hv'
    · rw [hv'] at hy
      rw [hco y (h.wait.1.lt y hy).2]; exact h.wait.2 y hy
    · exact colN_new (hv' y hy) (ho.lt y hy).2
  · intro j a c ha hc
    by_cases hj : j < vs.length
    · rw [List.getElem?_append_left hj] at ha
      have hc' : s.wait[j]? = some c := by
        show s.wait[j]? = some c
        have : (s.wait ++ [xs])[j]? = some c := hc
        rwa [List.getElem?_append_left (by rw [← h.n]; exact hj)] at this
      exact keep (h.row j a c ha hc')
    · have hjl : j = vs.length := by
        have := (List.getElem?_eq_some_iff.1 ha).1
        rw [List.length_append] at this
        simp at this; omega
      subst hjl
      rw [List.getElem?_append_right (Nat.le_refl _), Nat.sub_self] at ha
      have hc' : (s.wait ++ [xs])[vs.length]? = some c := hc
      rw [h.n, List.getElem?_append_right (Nat.le_refl _), Nat.sub_self] at hc'
      simp at ha hc'
      subst ha hc'
      exact ⟨own_lower hox (Nat.zero_le _), fun y hy => colN_new (hxn y hy).1 (hxn y hy).2⟩
  · rw [← List.cons_append]
    refine List.pairwise_append.2 ⟨h.apart, List.pairwise_singleton _ _, fun a ha c hc => ?_⟩
    rw [List.mem_singleton.1 hc]
    intro e
    cases hb : x.ownBlock with
    | none => exact hxs hb
    | some y =>
      rw [hb] at e
      have h1 := (hxn y hb).1
      rcases List.mem_cons.1 ha with rfl | ha
      · have := (h.last.1.lt y e).2; omega
      · obtain ⟨j, hj, rfl⟩ := List.mem_iff_getElem.1 ha
        have := ((h.row j _ _ (List.getElem?_eq_getElem hj) (List.getElem?_eq_getElem (by rw [← h.n]; exact hj))).1.lt y e).2
        omega
theorem set_same (C : Array Value) (i : Nat) (x : Value) (h : C[i]? = some x) : C.setIfInBounds i x = C := by
  apply Array.ext
  · simp
  · intro j h1 h2
    rw [Array.getElem_setIfInBounds]
    split
    · rename_i e; subst e
      rw [Array.getElem?_eq_getElem h2] at h
      exact (Option.some.inj h).symm
    · rfl
set_option maxRecDepth 100000 in
set_option maxHeartbeats 8000000 in
theorem write_yes {w : World} {S : Nat → Prop} {b : Nat} {D : Dv} {col : Nat → Nat} {fv : Nat → Value} {uv : Nat → List Pl} (h : DA w S b D col fv uv) (i : Nat) (hi : i < 2) (n : Nat) (s : Se) (hs : (D.f i)[n]? = some s) (hw : s.wait.length ≤ 100000) (N : Int) (hN : N = n)
    (dv : Value) (xs : List Int) (hdf : ∀ w', Fr S w w' → IR w' w'.heap.size .u8 dv xs) (hxl : xs.length = 128) (hxb : Bytes xs) :
    Calls Try.prog 60 #[.pointer (some ⟨b, 0, none⟩), .int .u8 i, .int .i64 N, dv] w fun e w' => e = .returned (.int .u16 0) ∧ (∃ col' uv', DA w' (growS w w' S) b (D.wr i n s xs) col' fv uv') ∧ Fr S w w' := by
  subst hN
  have hn : n < (D.f i).length := (List.getElem?_eq_some_iff.1 hs).1
  obtain ⟨g, cap, C, p, s', sp⟩ := (h.file i hi).spot n hn
  obtain rfl : s' = s := Option.some.inj (sp.hs.symm.trans hs)
  obtain ⟨j0, hj0, hj1, hj2, hj3⟩ := info_parts bs_info
  have AT := Lib.hid (at_yes w b fv D.lim D.left D.dead h.box i hi g _ cap sp.hv n hn (h.most i hi) sp.hcap (n : Int) rfl)
  have CT := Lib.hid (counts_any w b fv D.lim D.left D.dead h.box h.left)
  have hd := hdf w (Fr.refl _ _)
  obtain ⟨Ad, cd, ed, hld, hcd⟩ := hd.form
  rw [hxl] at ed
  subst ed
  have HH := Lib.hid h
  have SP := Lib.hid sp
  have HDF := Lib.hid hdf
  have HXL := Lib.hid hxl
  have HXB := Lib.hid hxb
  have HWL := Lib.hid hw
  have gb : g ≠ b := fun e => by have h1 := h.bcol; have h2 := sp.hcol; rw [e] at h2; rw [h1] at h2; unfold fc at h2; omega
  obtain ⟨q, hq⟩ : ∃ q, q = cntB D.lim D.left := ⟨_, rfl⟩
  rw [← hq] at CT
  have HQ := Lib.hid hq
  clear hs hd hdf hxl hxb hld hcd h sp hq hw
  go_enter Try.func60, Try.ntmps60
  go_wp2_with fail
  (with_reducible refine AT.out.mono ?_)
  rintro e w0 ⟨rfl, rfl⟩
  go_wp2_with fail
  (with_reducible refine CT.out.mono ?_)
  rintro e w1 ⟨rfl, hb1, hf1⟩
  have h1 := HH.out.head hf1 D.lim _ _ (cnt_left HH.out.left) hb1
  have H1 := Lib.hid h1
  have F1 := Lib.hid hf1
  clear h1 hb1
  cases q
  case false =>
    go_wp2
    go_ret
    refine ⟨rfl, ⟨col, uv, ?_⟩, F1.out.mono (fun k _ hk => by rw [hk]; exact HH.out.here)⟩
    unfold Dv.wr
    rw [if_neg (by rw [← HQ.out]; decide)]
    exact H1.out.grow
  case true =>
    have hsec := SP.out.sec.fr hf1 (fun x hx e => by rw [e, HH.out.bcol]; unfold fc; omega) (fun _ _ => rfl)
    have bx1 := SP.out.box.fr hf1 gb
    obtain ⟨Av, cv, ev, hlv⟩ := hsec.form_v
    obtain ⟨vs, hvs⟩ : ∃ vs, vs = p.2.2 := ⟨_, rfl⟩
    rw [← hvs] at ev hlv hsec
    obtain ⟨V, hV⟩ : ∃ V, V = vs.length := ⟨_, rfl⟩
    rw [← hV] at ev hlv
    have HVB := Lib.hid (show V ≤ 100000 by have := hsec.n; have := HWL.out; omega)
    have C1 := Lib.hid (show C[2 * n + 1]? = some (.slice Av V cv) by rw [← ev]; exact SP.out.c1)
    have BX1 := Lib.hid bx1
    have OW1 := Lib.hid (show w1.ownsRow 0 48 1 (.slice Av V cv) V vs by have := hsec.wait.1; rw [ev, ← hV] at this; exact this)
    have HRG : (Value.slice Av V cv).ownBlock ≠ some g := fun e => by
      have h2 := hsec.wait.2 g (by rw [ev]; exact e)
      have h3 := SP.out.hcol
      omega
    have HRL := Lib.hid (show ∀ k, (Value.slice Av V cv).ownBlock = some k → k < w1.heap.size from fun k e => (OW1.out.lt k e).2)
    have HD1 := Lib.hid (show IR w1 w1.heap.size .u8 (.slice Ad 128 cd) xs from HDF.out w1 (F1.out.mono (fun k _ hk => by rw [hk]; exact HH.out.here)))
    have SEC := Lib.hid hsec
    have EV := Lib.hid ev
    have HVS := Lib.hid hvs
    have HVL := Lib.hid hV
    clear hf1 hsec bx1 ev hvs hV hlv
    go_wp2
    refine wp_region_app (by kernel_rfl) (by kernel_rfl) (Value.slice Av V cv).ownBlock g 8 11 78 (fun v => C.setIfInBounds (2 * n + 1) v) [(fun v _ => v = .pointer (some ⟨g, 2 * n, none⟩)), (fun v _ => v = .pointer (some ⟨g, 2 * n, none⟩)), (fun v _ => v = .pointer (some ⟨g, 2 * n, none⟩)), (fun v _ => v = .pointer (some ⟨g, 2 * n + 1, none⟩)), (fun v _ => v = .slice Av V cv), (fun v _ => v = .slice Ad 128 cd), (fun v W => W.ownsRow w1.heap.size 5 1 v 128 (xs.map (.int .u8))), (fun v W => ∃ g1, v = .slice (some ⟨g1, 0, none⟩) 1 1 ∧ w1.heap.size ≤ g1 ∧ ∃ x, Box W g1 #[x] 48 ∧ W.ownsRow w1.heap.size 5 1 x 128 (xs.map (.int .u8))), (fun v W => ∃ x, W.ownsRow 0 48 1 v (V + 1) (vs ++ [x]) ∧ W.ownsRow w1.heap.size 5 1 x 128 (xs.map (.int .u8)) ∧ (v.ownBlock = (Value.slice Av V cv).ownBlock ∨ ∀ k, v.ownBlock = some k → w1.heap.size ≤ k)), (fun v _ => v = .pointer (some ⟨g, 2 * n, none⟩)), (fun v _ => v = .pointer (some ⟨g, 2 * n + 1, none⟩)), (fun v _ => v = undef)] (by decide) (by intro o ho; injection ho with ho; subst ho; exact ⟨⟨8, .data⟩, by simp, rfl, rfl⟩) HRG ?_ (fun vals => ?_) (fun vals W hfr hbx hall _ => ?_) (by decide)
    · intro j v W W' hj hsz hf h
      match j, hj, h with
      | 0, _, h => exact h
      | 1, _, h => exact h
      | 2, _, h => exact h
      | 3, _, h => exact h
      | 4, _, h => exact h
      | 5, _, h => exact h
      | 6, _, h => exact own_frS h hf (fun k hk hs => by have := (h.lt k hk).1; rcases hs with ⟨_, h1⟩ | h1; (have := HRL.out _ h1; omega); (have := BX1.out.lt; omega))
      | 7, _, h => obtain ⟨g1, e1, e2, x, e3, e4⟩ := h; exact ⟨g1, e1, e2, x, e3.fr hf (fun hk => by rcases hk with ⟨_, h1⟩ | h1; (have := HRL.out _ h1; omega); (have := BX1.out.lt; omega)), own_frS e4 hf (fun k hk hs => by have := (e4.lt k hk).1; rcases hs with ⟨_, h1⟩ | h1; (have := HRL.out _ h1; omega); (have := BX1.out.lt; omega))⟩
      | 8, _, h => obtain ⟨x, e1, e2, e3⟩ := h; exact ⟨x, own_frS e1 hf (fun k hk hs => by rcases hs with ⟨h1, _⟩ | h1; (exact h1 rfl); (subst h1; rcases e3 with h3 | h3; (rw [h3] at hk; exact HRG hk); (have := h3 _ hk; have := BX1.out.lt; omega))), own_frS e2 hf (fun k hk hs => by have := (e2.lt k hk).1; rcases hs with ⟨h1, _⟩ | h1; (exact h1 rfl); (have := BX1.out.lt; omega)), e3⟩
      | 9, _, h => exact h
      | 10, _, h => exact h
      | 11, hj, _ => exact absurd rfl hj
      | _ + 12, _, _ => trivial
    · simp only [ObL, Act.put, List.setIfInBounds_toArray, List.set_cons_succ, List.set_cons_zero]
      refine ⟨?_, ?_, ?_, ?_, ?_, ?_, ?_, ?_, ?_, ?_, ?_, ?_, trivial⟩
      · intro L W hL hk hC hw
        clear hw
        clear hL hC hk
        refine step_plain rfl ?_
        go_simp
        first | exact ⟨Ra.same _, Fa.val (by decide) rfl rfl⟩ | exact ⟨_, rfl, Ra.same _, Fa.val (by decide) rfl rfl⟩
      · intro L W hL hk hC hw
        clear hw
        clear hL hC hk
        refine step_plain rfl ?_
        go_simp
        first | exact ⟨Ra.same _, Fa.val (by decide) rfl rfl⟩ | exact ⟨_, rfl, Ra.same _, Fa.val (by decide) rfl rfl⟩
      · intro L W hL hk hC hw
        have f1 : vals 1 = .pointer (some ⟨g, 2 * n, none⟩) := Fa.get (hw ⟨1, .data⟩ (by simp) rfl) (by decide)
        clear hw
        clear hL hC hk
        refine step_plain rfl ?_
        go_simp
        first | exact ⟨Ra.same _, Fa.val (by decide) rfl rfl⟩ | exact ⟨_, rfl, Ra.same _, Fa.val (by decide) rfl rfl⟩
      · intro L W hL hk hC hw
        have f2 : vals 2 = .pointer (some ⟨g, 2 * n, none⟩) := Fa.get (hw ⟨2, .data⟩ (by simp) rfl) (by decide)
        clear hw
        clear hL hC hk
        refine step_plain rfl ?_
        go_simp
        first | exact ⟨Ra.same _, Fa.val (by decide) rfl rfl⟩ | exact ⟨_, rfl, Ra.same _, Fa.val (by decide) rfl rfl⟩
      · intro L W hL hk hC hw
        have f3 : vals 3 = .pointer (some ⟨g, 2 * n + 1, none⟩) := Fa.get (hw ⟨3, .data⟩ (by simp) rfl) (by decide)
        clear hw
        have bx := hC.box BX1.out (hL.not_yet hk 11 8 (by decide +kernel)) HRG
        have kc : W.cell? ⟨g, 2 * n + 1, none⟩ = some (.slice Av V cv) := by rw [bx.cell]; exact C1.out
        clear hL hC hk bx
        refine step_plain rfl ?_
        go_simp
        first | exact ⟨Ra.same _, Fa.val (by decide) rfl rfl⟩ | exact ⟨_, rfl, Ra.same _, Fa.val (by decide) rfl rfl⟩
      · intro L W hL hk hC hw
        clear hw
        clear hL hC hk
        refine step_plain rfl ?_
        go_simp
        first | exact ⟨Ra.same _, Fa.val (by decide) rfl rfl⟩ | exact ⟨_, rfl, Ra.same _, Fa.val (by decide) rfl rfl⟩
      · intro L W hL hk hC hw
        have f5 : vals 5 = .slice Ad 128 cd := Fa.get (hw ⟨5, .data⟩ (by simp) rfl) (by decide)
        clear hw
        have hb := hC.below (hL.not_yet hk 8 8 (by decide +kernel)) (hL.not_yet hk 11 8 (by decide +kernel))
        have hsz := hb.size
        have CL := Lib.hid (clone_any _ xs W W.heap.size ((HD1.out.below hb).more hb.size) (Nat.le_refl _) (by have := HXL.out; omega))
        clear hL hC hk hb
        refine step_plain rfl ?_
        go_simp
        (with_reducible refine CL.out.mono ?_)
        rintro e w8 ⟨u, rfl, hu, hb8⟩
        have hu2 := own_len (own_lower hu hsz) HXL.out
        first | exact ⟨Ra.of_below hb8, Fa.val (by decide) rfl hu2⟩ | exact ⟨_, rfl, Ra.of_below hb8, Fa.val (by decide) rfl hu2⟩
      · intro L W hL hk hC hw
        have f6 : W.ownsRow w1.heap.size 5 1 (vals 6) 128 (xs.map (.int .u8)) := Fa.get (hw ⟨6, .data⟩ (by simp) rfl) (by decide)
        clear hw
        have hsz := Lib.hid (show w1.heap.size ≤ W.heap.size from hC.size)
        obtain ⟨A6, c6, e6⟩ := own_slice' f6
        rw [e6] at f6
        have F6 := Lib.hid f6
        clear hL hC hk f6
        refine step_plain rfl ?_
        go_simp
        have hz := new_ (Below.refl W.heap.size W) (.cells #[.slice A6 128 c6] 48)
        first | exact ⟨Ra.of_below hz, Fa.val (by decide) rfl ⟨_, rfl, hsz.out, _, Box.new _ _ _, own_below F6.out hz⟩⟩ | exact ⟨_, rfl, Ra.of_below hz, Fa.val (by decide) rfl ⟨_, rfl, hsz.out, _, Box.new _ _ _, own_below F6.out hz⟩⟩
      · intro L W hL hk hC hw
        have f4 : vals 4 = .slice Av V cv := Fa.get (hw ⟨4, .data⟩ (by simp) rfl) (by decide)
        have f7 : ∃ g1, (vals 7) = .slice (some ⟨g1, 0, none⟩) 1 1 ∧ w1.heap.size ≤ g1 ∧ ∃ x, Box W g1 #[x] 48 ∧ W.ownsRow w1.heap.size 5 1 x 128 (xs.map (.int .u8)) := Fa.get (hw ⟨7, .data⟩ (by simp) rfl) (by decide)
        clear hw
        have hb := hC.below hk (hL.not_yet hk 11 8 (by decide +kernel))
        have ow := own_below OW1.out hb
        obtain ⟨g1, e7, hg1, x, hbx1, hx1⟩ := f7
        obtain ⟨Ax, cx, ex⟩ := own_slice' hx1
        subst ex
        clear hL hC hk
        refine step_plain rfl ?_
        refine wp_push W _ _ _ rfl 0 48 j0 _ 1 24 Try.underlying76 hj0 hj1 hj2 hj3 rfl (by decide) [.slice Ax 128 cx] rfl (by intro u hu; simp only [List.mem_singleton] at hu; subst hu; rfl) (.slice Av V cv) V vs f4 ow g1 _ e7 hbx1 (by simp only [maxLen]; have := HVB.out; omega) (by have := HVB.out; omega) (Nat.zero_le _) ?_
        intro v1 w2 ho1 hgr1 hb1
        have hk1 : (Value.slice Ax 128 cx).ownBlock = none ∨ (Value.slice Ax 128 cx).ownBlock ≠ (Value.slice Av V cv).ownBlock := by
              refine .inr (fun e9 => ?_)
              cases hAx : (Value.slice Ax 128 cx).ownBlock with
              | none => rcases hx1.2 with ⟨_, h0⟩ | ⟨q, _, _, eq, _⟩; (cases h0); (rw [eq] at hAx; cases hAx)
              | some q => have h8 := (hx1.lt q hAx).1; rw [hAx] at e9; have := HRL.out q e9.symm; omega
        have hk2 : v1.ownBlock = (Value.slice Av V cv).ownBlock ∨ ∀ k, v1.ownBlock = some k → w1.heap.size ≤ k := by
              rcases hb1 with h | h
              · exact .inl h
              · exact .inr (fun k hk => by rw [h] at hk; injection hk with hk; have := hb.size; omega)
        exact ⟨_, rfl, Fr.grown (Fr.refl _ _) hgr1 (fun g e => .inl (.inl ⟨rfl, e⟩)), Fa.val (by decide) rfl ⟨_, ho1, hx1.kept hgr1 hk1, hk2⟩⟩
      · intro L W hL hk hC hw
        have f0 : vals 0 = .pointer (some ⟨g, 2 * n, none⟩) := Fa.get (hw ⟨0, .data⟩ (by simp) rfl) (by decide)
        clear hw
        clear hL hC hk
        refine step_plain rfl ?_
        go_simp
        first | exact ⟨Ra.same _, Fa.val (by decide) rfl rfl⟩ | exact ⟨_, rfl, Ra.same _, Fa.val (by decide) rfl rfl⟩
      · intro L W hL hk hC hw
        have f9 : vals 9 = .pointer (some ⟨g, 2 * n, none⟩) := Fa.get (hw ⟨9, .data⟩ (by simp) rfl) (by decide)
        clear hw
        clear hL hC hk
        refine step_plain rfl ?_
        go_simp
        first | exact ⟨Ra.same _, Fa.val (by decide) rfl rfl⟩ | exact ⟨_, rfl, Ra.same _, Fa.val (by decide) rfl rfl⟩
      · intro L W hL hk hC hw
        have f10 : vals 10 = .pointer (some ⟨g, 2 * n + 1, none⟩) := Fa.get (hw ⟨10, .data⟩ (by simp) rfl) (by decide)
        have f8 : ∃ x, W.ownsRow 0 48 1 (vals 8) (V + 1) (vs ++ [x]) ∧ W.ownsRow w1.heap.size 5 1 x 128 (xs.map (.int .u8)) ∧ ((vals 8).ownBlock = (Value.slice Av V cv).ownBlock ∨ ∀ k, (vals 8).ownBlock = some k → w1.heap.size ≤ k) := Fa.get (hw ⟨8, .data⟩ (by simp) rfl) (by decide)
        clear hw
        have bx := hC.box BX1.out hk HRG
        obtain ⟨x, hx8, hxx, hx9⟩ := f8
        obtain ⟨A2, l2, e21⟩ := own_slice' hx8
        have kc : ∃ z, W.cell? ⟨g, 2 * n + 1, none⟩ = some z := ⟨_, by rw [bx.cell]; exact C1.out⟩
        obtain ⟨z, kc⟩ := kc
        have fc := bx.frozen (2 * n + 1)
        clear hL hC hk
        refine step_plain rfl ?_
        go_simp
        have hb9 := Box.set_ bx (2 * n + 1) (.slice A2 (V + 1) l2)
        exact ⟨Fr.setCell (Fr.refl _ _) (p := ⟨g, 2 * n + 1, none⟩) (.inl (.inr ⟨rfl, rfl⟩)) _, undef, Fa.last (by decide) (by rw [e21]; exact hb9)⟩
    · simp only [TL, Act.put, List.setIfInBounds_toArray, List.set_cons_succ, List.set_cons_zero]
      have f8 : ∃ x, W.ownsRow 0 48 1 (vals 8) (V + 1) (vs ++ [x]) ∧ W.ownsRow w1.heap.size 5 1 x 128 (xs.map (.int .u8)) ∧ ((vals 8).ownBlock = (Value.slice Av V cv).ownBlock ∨ ∀ k, (vals 8).ownBlock = some k → w1.heap.size ≤ k) := hall 8 (by decide) (by decide)
      obtain ⟨x, o8, ox, h8⟩ := f8
      have hse := SEC.out.wr (g := g) (by have := SP.out.hcol; omega) HXL.out HXB.out (v' := vals 8) (x := x) (by rw [EV.out]; exact hfr) (by rw [← HVL.out]; exact o8) (by rw [EV.out]; exact h8) ox
      have hsp1 : Spot 78 w1 col (fc i) (fv i) (D.cnt.f i) (uv i) n g cap C p s' := ⟨SP.out.hv, SP.out.hcap, SP.out.hp, SP.out.hs, SP.out.hcol, BX1.out, SP.out.c0, SP.out.c1, by have := SEC.out; rw [HVS.out] at this; exact this, SP.out.size⟩
      have hfin := H1.out.upd hi hsp1 (w' := W) (hfr.mono (fun k hk hS => by
        rcases hS with hS | hS
        · exact .inr (SEC.out.wait.2 k (by rw [EV.out]; exact hS))
        · exact .inl hS)) (s'.wr xs) (p.1, vals 8, vs ++ [x]) (by show Box W g ((C.setIfInBounds (2 * n) p.1).setIfInBounds (2 * n + 1) (vals 8)) _; rw [set_same C _ _ SP.out.c0]; exact hbx) hse
      have HF := Lib.hid hfin
      have HFR := Lib.hid hfr
      clear hfin hse hsp1 o8 ox h8 hbx hfr hall
      go_wp2
      go_ret
      rw [show D.wr i n s' xs = D.cnt.upd i n (s'.wr xs) from if_pos HQ.out.symm]
      have hgw := HF.out.mono (S' := growS w W S) (fun x hx => by rcases hx with hx | hx; (exact .inl hx); (exact .inr ⟨Nat.le_trans F1.out.size hx.1, hx.2⟩)) (fun x hx => by rcases hx with hx | hx; (exact Nat.lt_of_lt_of_le (HH.out.old x hx) (Nat.le_trans F1.out.size HFR.out.size)); (exact hx.2))
      exact ⟨rfl, ⟨_, _, hgw⟩, Fr.trans' (F1.out.mono (fun k _ hk => by rw [hk]; exact HH.out.here)) HFR.out (fun k _ hk => HH.out.mine k (by rcases hk with hk | hk; (have := SEC.out.wait.2 k (by rw [EV.out]; exact hk); omega); (rw [hk, SP.out.hcol]; unfold fc; omega)))⟩
end Go.Proofs.Yteggcehjpfmikaa.Disk
namespace Go.Proofs.Yteggcehjpfmikaa.Disk
open Go.ChangeShapes Go.WideShapes Go.ChangeAt Go.RowKit Go.IntWalk Go.Proofs.Mem
set_option linter.unusedVariables false
set_option linter.unusedSimpArgs false
def Se.keep (s : Se) (n : Nat) : List Int := if n = 0 then s.last else s.wait.getD (n - 1) s.last
def Se.syn (s : Se) : Se := ⟨s.keep s.wait.length, []⟩
theorem SeAt.keep {w : World} {col : Nat → Nat} {k : Nat} {s : Se} {u v : Value} {vs : List Value} (h : SeAt w col k s u v vs) (n : Nat) (hn : n ≤ vs.length) :
    Hd w col k 5 1 (if n = 0 then u else vs.getD (n - 1) u) 128 ((s.keep n).map (.int .u8)) ∧ (s.keep n).length = 128 ∧ Bytes (s.keep n) := by
  unfold Se.keep
  by_cases h0 : n = 0
  · rw [if_pos h0, if_pos h0]; exact ⟨h.last, h.len, h.byt⟩
  · rw [if_neg h0, if_neg h0]
    have h1 : n - 1 < vs.length := by omega
    have h2 : n - 1 < s.wait.length := by rw [← h.n]; exact h1
    have e1 : vs.getD (n - 1) u = vs[n - 1] := by rw [List.getD_eq_getElem?_getD, List.getElem?_eq_getElem h1]; rfl
    have e2 : s.wait.getD (n - 1) s.last = s.wait[n - 1] := by rw [List.getD_eq_getElem?_getD, List.getElem?_eq_getElem h2]; rfl
    rw [e1, e2]
    exact ⟨h.row _ _ _ (List.getElem?_eq_getElem h1) (List.getElem?_eq_getElem h2), h.lens _ (List.getElem_mem h2), h.byts _ (List.getElem_mem h2)⟩
theorem SeAt.bare {w : World} {col : Nat → Nat} {k : Nat} {u : Value} {xs : List Int} (h : Hd w col k 5 1 u 128 (xs.map (.int .u8))) (hl : xs.length = 128) (hb : Bytes xs) : SeAt w col k ⟨xs, []⟩ u (.slice none 0 0) [] :=
  ⟨hl, fun x hx => (List.not_mem_nil hx).elim, hb, fun x hx => (List.not_mem_nil hx).elim, h, rfl, Hd.nil _ _ _ _ _, fun j x y hx => by simp at hx, List.pairwise_singleton _ _⟩
def Dv.synTo (D : Dv) (i j : Nat) : Dv := { D with f := fun k => if k = i then ((D.f i).take j).map Se.syn ++ (D.f i).drop j else D.f k }
theorem synTo_zero (D : Dv) (i : Nat) : D.synTo i 0 = D := by
  obtain ⟨f, a, b, c⟩ := D
  unfold Dv.synTo
  congr 1
  funext k
  by_cases h : k = i
  · rw [if_pos h, h]; rfl
  · rw [if_neg h]
theorem synTo_at (D : Dv) (i j : Nat) (hj : j < (D.f i).length) : ((D.synTo i j).f i)[j]? = some (D.f i)[j] := by
  simp only [Dv.synTo, if_true]
  rw [List.getElem?_append_right (by simp; omega), List.length_map, List.length_take, Nat.min_eq_left (by omega), Nat.sub_self, List.drop_eq_getElem_cons hj]
  rfl
theorem synTo_succ (D : Dv) (i j : Nat) (hj : j < (D.f i).length) : (D.synTo i j).upd i j (D.f i)[j].syn = D.synTo i (j + 1) := by
  obtain ⟨f, a, b, c⟩ := D
  unfold Dv.upd Dv.synTo
  congr 1
  funext k
  by_cases h : k = i
  · simp only [h, if_true]
    have hl : (((f i).take j).map Se.syn).length = j := by rw [List.length_map, List.length_take]; simp only at hj; omega
    rw [List.set_append_right _ _ (by omega), hl, Nat.sub_self, List.drop_eq_getElem_cons hj, List.set_cons_zero, List.take_succ_eq_append_getElem hj, List.map_append, List.append_assoc]
    rfl
  · simp only [if_neg h]
theorem synTo_len (D : Dv) (i j : Nat) : ((D.synTo i j).f i).length = (D.f i).length := by
  simp only [Dv.synTo, if_true, List.length_append, List.length_map, List.length_take, List.length_drop]; omega
def Dv.syn (D : Dv) (i : Nat) : Dv := if cntB D.lim D.left = true then D.cnt.synTo i (D.f i).length else D.cnt
theorem Fr.sub {S T : Nat → Prop} {a b c : World} (h : Fr S a b) (k : Fr T b c) (ht : ∀ x, x < a.heap.size → T x → S x) : Fr S a c := Fr.trans' h k ht
set_option maxRecDepth 100000 in
set_option maxHeartbeats 8000000 in
theorem sync_yes {w : World} {S : Nat → Prop} {b : Nat} {D : Dv} {col : Nat → Nat} {fv : Nat → Value} {uv : Nat → List Pl} (h : DA w S b D col fv uv) (i : Nat) (hi : i < 2) (hw : ∀ s ∈ D.f i, s.wait.length ≤ 100000) :
    Calls Try.prog 61 #[.pointer (some ⟨b, 0, none⟩), .int .u8 i] w fun e w' => e = .returned (.tuple #[]) ∧ (∃ col' uv', DA w' (growS w w' S) b (D.syn i) col' fv uv') ∧ Fr S w w' := by
  have CT := Lib.hid (counts_any w b fv D.lim D.left D.dead h.box h.left)
  have HH := Lib.hid h
  have HWT := Lib.hid hw
  obtain ⟨A, c, ev, hlc⟩ : ∃ A c, fv i = .slice A (D.f i).length c ∧ (D.f i).length ≤ c := by
    rcases (h.file i hi).row.1.2 with ⟨e, h0⟩ | ⟨g, cap, _, e, _, _, h1, _⟩
    · rw [h0]; exact ⟨none, 0, e, Nat.le_refl _⟩
    · exact ⟨_, cap, e, h1⟩
  have hmo := h.most i hi
  obtain ⟨L, hL⟩ : ∃ L, L = (D.f i).length := ⟨_, rfl⟩
  rw [← hL] at ev hlc hmo
  have EV := Lib.hid ev
  have HL := Lib.hid hL
  have wi := i8_wrap i (by omega)
  have d1 : decide ((2 : Int) ≤ (i : Int)) = false := by simp; omega
  have hi2 : (i : Int) < 2 := by omega
  obtain ⟨q, hq⟩ : ∃ q, q = cntB D.lim D.left := ⟨_, rfl⟩
  rw [← hq] at CT
  have HQ := Lib.hid hq
  clear h hw hq ev hL
  go_enter Try.func61, Try.ntmps61
  go_wp2_with fail
  (with_reducible refine CT.out.mono ?_)
  rintro e w1 ⟨rfl, hb1, hf1⟩
  have h1 := HH.out.head hf1 D.lim _ _ (cnt_left HH.out.left) hb1
  have H1 := Lib.hid h1
  have F1 := Lib.hid (hf1.mono (S' := S) (fun k _ hk => by rw [hk]; exact HH.out.here))
  have kc : w1.cell? ⟨b, i, none⟩ = some (.slice A L c) := by
    rw [hb1.cell i]
    rcases two hi with rfl | rfl
    · rw [← EV.out]; rfl
    · rw [← EV.out]; rfl
  clear h1 hb1 hf1
  cases q
  case false =>
    go_wp2
    refine bodyPost_ret (results_none rfl _ _ _) rfl ?_
    refine ⟨rfl, ⟨col, uv, ?_⟩, F1.out⟩
    unfold Dv.syn
    rw [if_neg (by rw [← HQ.out]; decide)]
    exact H1.out.grow
  case true =>
    go_wp2
    clear kc
    go_loopw [21] (fun x wr => ∃ (j : Nat), j ≤ L ∧ x = .int .i64 j ∧ (∃ col' uv', DA wr (growS w wr S) b (D.cnt.synTo i j) col' fv uv') ∧ Fr S w wr) (fun x _ => L - (intOf x).toNat)
    case atStart => exact ⟨0, Nat.zero_le _, rfl, ⟨col, uv, by rw [synTo_zero]; exact H1.out.grow⟩, F1.out⟩
    case round =>
      obtain ⟨j, hj, rfl, ⟨col1, uv1, hd⟩, hfr⟩ := hrel
      by_cases hlt : j < L
      · have hjl : j < (D.cnt.f i).length := by rw [← show L = (D.cnt.f i).length from HL.out]; exact hlt
        obtain ⟨g, cap, C, p, s, sp⟩ := (hd.file i hi).spot j (by rw [synTo_len]; exact hjl)
        have es : s = (D.cnt.f i)[j] := Option.some.inj (sp.hs.symm.trans (synTo_at D.cnt i j hjl))
        have hwl : s.wait.length ≤ 100000 := HWT.out s (by rw [es]; exact List.getElem_mem _)
        have kc : wr.cell? ⟨b, i, none⟩ = some (.slice A L c) := by
          rw [hd.box.cell i]
          rcases two hi with rfl | rfl
          · rw [← EV.out]; rfl
          · rw [← EV.out]; rfl
        have eA : A = some ⟨g, 0, none⟩ := by
          have := sp.hv
          rw [EV.out] at this
          injection this
        subst eA
        obtain ⟨Av, cv, ev, hlv⟩ := sp.sec.form_v
        have k1 : wr.cell? ⟨g, 2 * j + 1, none⟩ = some p.2.1 := by rw [sp.box.cell]; exact sp.c1
        have f1 := sp.box.frozen (2 * j + 1)
        rw [ev] at k1
        have KP := Lib.hid (keep_any wr g (2 * j) C 78 p.1 p.2.1 p.2.2 sp.box sp.c0 sp.c1 sp.sec.wait.1 p.2.2.length (Nat.le_refl _) (by rw [sp.sec.n]; exact hwl) sp.sec.form_w)
        obtain ⟨V, hV⟩ : ∃ V, V = p.2.2.length := ⟨_, rfl⟩
        rw [← hV] at k1 KP
        have SP := Lib.hid sp
        have HD := Lib.hid hd
        have HFR := Lib.hid hfr
        have ES := Lib.hid es
        have HV := Lib.hid hV
        have d2 : decide ((j : Int) < (L : Int)) = true := by simp; omega
        have kz : ∃ z, z = (if V = 0 then p.1 else p.2.2.getD (V - 1) p.1) := ⟨_, rfl⟩
        obtain ⟨z, hz⟩ := kz
        rw [← hz] at KP
        have HZ := Lib.hid hz
        rw [show 2 * j = j * 2 from Nat.mul_comm 2 j] at k1 KP
        clear sp hd hfr es hV ev hlv hwl f1 hz
        go_wp2_with fail
        (with_reducible refine KP.out.mono ?_)
        rintro e w2 ⟨rfl, hb2, hf2⟩
        have kc2 : ∃ y, w2.cell? ⟨g, j * 2 + 1, none⟩ = some y := ⟨p.2.1, by
          rw [hb2.cell, Array.getElem?_setIfInBounds_ne (by omega), show j * 2 + 1 = 2 * j + 1 by omega]; exact SP.out.c1⟩
        obtain ⟨y, kc2⟩ := kc2
        have fc2 := hb2.frozen (j * 2 + 1)
        have HB2 := Lib.hid hb2
        have HF2 := Lib.hid hf2
        clear hb2 hf2
        go_wp2
        have hb3 := HB2.out.set_ (j * 2 + 1) (.slice none 0 0)
        have hf3 := Fr.setCell (a := wr) HF2.out (p := ⟨g, j * 2 + 1, none⟩) (.inl rfl) (.slice none 0 0)
        obtain ⟨w3, hw3⟩ : ∃ w3, w2.setCell ⟨g, j * 2 + 1, none⟩ (.slice none 0 0) = w3 := ⟨_, rfl⟩
        rw [hw3] at hb3 hf3
        have hff := hf3.mono (S' := fun x => x = g ∨ col1 x = fc i + 1 + j) (fun k _ hk => .inl hk)
        have hkp := SP.out.sec.keep V (by rw [HV.out]; exact Nat.le_refl _)
        have hse : SeAt w3 (colN wr w3 col1 (fc i + 1 + j)) (fc i + 1 + j) s.syn z (.slice none 0 0) [] := by
          refine SeAt.bare ?_ ?_ ?_
          · have e9 : s.keep s.wait.length = s.keep V := by rw [HV.out, SP.out.sec.n]
            rw [e9, HZ.out]
            exact hkp.1.fr hf3 (fun x _ hx => by rw [hx, SP.out.hcol]; omega) (fun x hx => colN_old hx)
          · have e9 : s.keep s.wait.length = s.keep V := by rw [HV.out, SP.out.sec.n]
            rw [e9]; exact hkp.2.1
          · have e9 : s.keep s.wait.length = s.keep V := by rw [HV.out, SP.out.sec.n]
            rw [e9]; exact hkp.2.2
        have hup := HD.out.upd hi SP.out hff s.syn (z, .slice none 0 0, []) (by show Box w3 g ((C.setIfInBounds (2 * j) z).setIfInBounds (2 * j + 1) (.slice none 0 0)) _; rw [show 2 * j = j * 2 from Nat.mul_comm 2 j]; exact hb3) hse
        rw [ES.out, synTo_succ D.cnt i j hjl] at hup
        have hgr := hup.mono (S' := growS w w3 S) (fun x hx => by
          have := HFR.out.size
          rcases hx with (hx | hx) | hx
          · exact .inl hx
          · exact .inr ⟨hx.1, Nat.lt_of_lt_of_le hx.2 hf3.size⟩
          · exact .inr ⟨by omega, hx.2⟩) (fun x hx => by
          rcases hx with hx | hx
          · exact Nat.lt_of_lt_of_le (HH.out.old x hx) (Nat.le_trans HFR.out.size hf3.size)
          · exact hx.2)
        have hfw : Fr S w w3 := Fr.sub HFR.out hf3 (fun x hx hxg => by
          rcases HD.out.mine x (by rw [hxg, SP.out.hcol]; unfold fc; omega) with h9 | h9
          · exact h9
          · omega)
        have HGR := Lib.hid hgr
        have HFW := Lib.hid hfw
        clear hb3 hf3 hff hkp hse hup hgr hfw kc fc2 kc2 k1 d2
        try rw [hw3]
        clear hw3
        go_roundw
        case rel => exact ⟨j + 1, by omega, by go_num, ⟨_, _, HGR.out⟩, HFW.out⟩
        case measure => simp [intOf]; omega
      · have hjL : j = L := by omega
        have HD := Lib.hid hd
        have HFR := Lib.hid hfr
        have d2 : decide ((j : Int) < (L : Int)) = false := by simp; omega
        have HJ := Lib.hid hjL
        clear hd hfr hjL
        go_wp2
        go_end0
        refine ⟨rfl, ⟨col1, uv1, ?_⟩, HFR.out⟩
        unfold Dv.syn
        rw [if_pos HQ.out.symm, ← HL.out, ← HJ.out]
        exact HD.out
end Go.Proofs.Yteggcehjpfmikaa.Disk
namespace Go.Proofs.Yteggcehjpfmikaa.Disk
open Go.ChangeShapes Go.WideShapes Go.ChangeAt Go.RowKit Go.IntWalk Go.Proofs.Mem
set_option linter.unusedVariables false
set_option linter.unusedSimpArgs false
theorem row_low {Tu : TypeId} {W : World} {base base' g : Nat} {u : Value} {xs : List Int} (h : RowAt Tu W base g u xs) (hb : base' ≤ base) : RowAt Tu W base' g u xs := ⟨h.form, own_lower h.own hb⟩
end Go.Proofs.Yteggcehjpfmikaa.Disk
namespace Go.Proofs.NumMath
set_option linter.unusedVariables false
open Go.RowKit Go.IntWalk
def pw (k : Nat) : Int := if k < 64 then ((2 ^ k : Nat) : Int) else 0
theorem pw_zero (k : Nat) (h : 64 ≤ k) : pw k = 0 := by
  unfold pw; rw [if_neg (by omega)]
theorem pw_of (k : Nat) (h : k < 64) : pw k = 2 ^ k := by
  unfold pw; rw [if_pos h]; simp
theorem wrap_u64 (x : Int) : IntKind.u64.wrap x = x % 18446744073709551616 := by
  simp [IntKind.wrap, IntKind.signed, IntKind.bits]
theorem p2 (k : Nat) : (0 : Int) < 2 ^ k := Int.pow_pos (by omega)
theorem p2_le {a b : Nat} (h : a ≤ b) : (2 : Int) ^ a ≤ 2 ^ b := by
  have := Nat.pow_le_pow_right (n := 2) (by omega) h
  have e : ∀ k : Nat, (2 : Int) ^ k = ((2 ^ k : Nat) : Int) := fun k => by simp
  rw [e, e]; omega
theorem p2_add (a b : Nat) : (2 : Int) ^ (a + b) = 2 ^ a * 2 ^ b := Int.pow_add ..
theorem left_eq (n : Int) (b : Nat) : n * 2 ^ min b 64 % 18446744073709551616 = n * pw b % 18446744073709551616 := by
  by_cases h : b < 64
  · rw [pw_of b h, Nat.min_eq_left (by omega)]
  · rw [pw_zero b (by omega), Nat.min_eq_right (by omega), show (2 : Int) ^ 64 = 18446744073709551616 from by decide, Int.mul_zero, Int.mul_emod_left]; rfl
def rightS (n : Int) (b : Int) : Int := n / 2 ^ min b.toNat 64
def signedS (n bits : Int) : Int :=
  if bits ≤ 0 then 0 else if 64 ≤ bits then wrap64 n else if n % 2 ^ bits.toNat < 2 ^ (bits.toNat - 1) then n % 2 ^ bits.toNat else n % 2 ^ bits.toNat - 2 ^ bits.toNat
def foldS (v : Int) : Int := if 0 ≤ v then 2 * v else -2 * v - 1
def unfoldS (n : Int) : Int := if n % 2 = 0 then n / 2 else -(n / 2) - 1
def turnS (n : Int) (K : Nat) : Int := (n % 2 ^ (64 - K)) * 2 ^ K + n / 2 ^ (64 - K)
theorem or_join_u64 (x y : Int) (i : Nat) (hx0 : 0 ≤ x) (hx1 : x ≤ 18446744073709551615) (hy0 : 0 ≤ y) (hy : y < 2 ^ i) (hy1 : y ≤ 18446744073709551615) (hx : x % 2 ^ i = 0) : bits .or .u64 x y = x + y := by
  obtain ⟨a, rfl⟩ := Int.eq_ofNat_of_zero_le hx0
  obtain ⟨b, rfl⟩ := Int.eq_ofNat_of_zero_le hy0
  rw [u64_or_nat a b (by omega) (by omega), nat_join i a b]
  · omega
  · have e : ((2 : Int) ^ i) = ((2 ^ i : Nat) : Int) := by simp
    rw [e] at hx; omega
  · have e : ((2 : Int) ^ i) = ((2 ^ i : Nat) : Int) := by simp
    rw [e] at hy; omega
def turnTo (n : Int) (K j : Nat) : Int := if j ≤ 64 - K then (n % 2 ^ j) * 2 ^ K else (n % 2 ^ (64 - K)) * 2 ^ K + (n % 2 ^ j) / 2 ^ (64 - K)
end Go.Proofs.NumMath
namespace Go.Proofs.Yteggcehjpfmikaa.NumBytes
open Go.ChangeShapes Go.WideShapes Go.ChangeAt Go.RowKit Go.IntWalk Go.Proofs.NumMath Go.Proofs.Mem
set_option linter.unusedVariables false
theorem ret_int {k : IntKind} {a b : Int} (h : a = b) : Ending.returned (.int k a) = .returned (.int k b) := by rw [h]
def leftS (n b : Int) : Int := n * pw b.toNat % 18446744073709551616
theorem u8_info : (Try.prog.info? 5).map (fun i => (i.zero, i.size, i.bytes)) = some (some (.int .u8 0), 1, 1) := by kernel_rfl
def putS (n : Int) (k : Nat) : List Int := (List.range k).map fun i => n / 2 ^ (8 * i) % 256
theorem putS_succ (n : Int) (k : Nat) : putS n (k + 1) = putS n k ++ [n / 2 ^ (8 * k) % 256] := by
  simp [putS, List.range_succ]
theorem putS_len (n : Int) (k : Nat) : (putS n k).length = k := by simp [putS]
theorem putS_bytes (n : Int) (k : Nat) : Bytes (putS n k) := by
  intro x hx
  simp only [putS, List.mem_map] at hx
  obtain ⟨i, _, rfl⟩ := hx
  omega
def putTo (n : Int) (k j : Nat) : List Int := putS n j ++ List.replicate (k - j) 0
theorem putTo_len (n : Int) (k j : Nat) (h : j ≤ k) : (putTo n k j).length = k := by simp [putTo, putS_len]; omega
theorem putTo_set (n : Int) (k j : Nat) (h : j < k) : (putTo n k j).set j (n / 2 ^ (8 * j) % 256) = putTo n k (j + 1) := by
  unfold putTo
  rw [putS_succ, List.set_append_right _ _ (by rw [putS_len]; omega), putS_len, Nat.sub_self, show k - j = (k - (j + 1)) + 1 by omega, List.replicate_succ, List.set_cons_zero, List.append_assoc]
  rfl
set_option maxHeartbeats 800000 in
theorem put_any (n k : Int) (h0 : 0 ≤ n) (h1 : n ≤ 18446744073709551615) (h2 : 1 ≤ k) (h3 : k ≤ 8) (w : World) :
    Calls Try.prog 70 #[.int .u64 n, .int .i64 k] w fun e w' => ∃ v, e = .returned v ∧ w'.ownsRow w.heap.size 5 1 v k.toNat ((putS n k.toNat).map (.int .u8)) ∧ Below w.heap.size w w' := by
  obtain ⟨K, rfl⟩ := Int.eq_ofNat_of_zero_le (show 0 ≤ k by omega)
  rw [Int.toNat_natCast]
  obtain ⟨i0, hi0, hz0, hz1, hz2⟩ := info_parts u8_info
  have hd1 : decide ((K : Int) < 1) = false := by simp; omega
  have hd2 : decide (8 < (K : Int)) = false := by simp; omega
  go_enter Try.func70, Try.ntmps70
  go_wp2_with (first
    | (refine wpList_make_full _ rfl (.tmp 13) (.tmp 13) _ rfl w.heap.size 5 i0 _ 1 Try.underlying48 hi0 hz0 hz1 .i64 .i64 K K K rfl rfl rfl rfl (by rw [hz2]; omega) (by simp only [maxLen]; omega) (Nat.le_refl _) ?_
       intro w1 hown1 hg1))
  go_loopw [17] (fun c wr => ∃ j : Nat, j ≤ K ∧ c = .int .i64 j ∧ wr.ownsRow w.heap.size 5 1 (.slice (some ⟨w.heap.size, 0, none⟩) K K) K ((putTo n K j).map (.int .u8)) ∧ Below w.heap.size w wr)
    (fun c _ => K - (intOf c).toNat)
  case atStart => exact ⟨0, by omega, rfl, by rw [madeZero] at hown1; exact hown1, grown_below hg1⟩
  case round =>
    obtain ⟨j, hj, rfl, hown, hbel⟩ := hrel
    by_cases hlt : j < K
    · have hcell : ∃ u, wr.cell? ⟨w.heap.size, j, none⟩ = some u := by
        rw [hown.cellAt j (by omega)]
        have : j < ((putTo n K j).map (Value.int .u8)).length := by rw [List.length_map, putTo_len n K j hj]; exact hlt
        exact ⟨_, List.getElem?_eq_getElem this⟩
      obtain ⟨u, hcell⟩ := hcell
      have hfz := hown.frozenAt j
      have hst := hown.stored j (.int .u8 (n / 2 ^ (8 * j) % 256))
      rw [← List.map_set, putTo_set n K j hlt] at hst
      have HS := Lib.hid hst
      clear hst hown
      go_wp2
      go_roundw
      case rel => exact ⟨j + 1, by omega, by go_num, HS.out.1, hbel.setCell (Nat.le_refl _) _⟩
      case measure => simp [intOf]; omega
    · have : j = K := by omega
      subst this
      go_wp2
      go_ret
      exact ⟨_, rfl, by simpa [putTo] using hown, hbel⟩
def getTo (xs : List Int) : Nat → Int
  | 0 => 0
  | j + 1 => getTo xs j + xs.getD j 0 * 2 ^ (8 * j)
def getS (xs : List Int) : Int := getTo xs (min xs.length 8)
theorem getTo_lt (xs : List Int) (hx : Bytes xs) (j : Nat) : 0 ≤ getTo xs j ∧ getTo xs j < 2 ^ (8 * j) := by
  induction j with
  | zero => simp [getTo]
  | succ j ih =>
    have hb := hx.at_ j
    have hp := p2 (8 * j)
    have e : (2 : Int) ^ (8 * (j + 1)) = 256 * 2 ^ (8 * j) := by rw [show 8 * (j + 1) = 8 + 8 * j by omega, p2_add]; rfl
    have m0 : 0 ≤ xs.getD j 0 * 2 ^ (8 * j) := Int.mul_nonneg hb.1 (by omega)
    have m1 : xs.getD j 0 * 2 ^ (8 * j) ≤ 255 * 2 ^ (8 * j) := Int.mul_le_mul_of_nonneg_right hb.2 (by omega)
    rw [e]; show 0 ≤ getTo xs j + _ ∧ getTo xs j + _ < _
    omega
theorem or_join_u64' (x y : Int) (i : Nat) (hx0 : 0 ≤ x) (hx1 : x ≤ 18446744073709551615) (hy0 : 0 ≤ y) (hy : y < 2 ^ i) (hy1 : y ≤ 18446744073709551615) (hx : x % 2 ^ i = 0) : bits .or .u64 y x = y + x := by
  have e := or_join_u64 x y i hx0 hx1 hy0 hy hy1 hx
  obtain ⟨a, rfl⟩ := Int.eq_ofNat_of_zero_le hx0
  obtain ⟨b, rfl⟩ := Int.eq_ofNat_of_zero_le hy0
  rw [u64_or_nat a b (by omega) (by omega)] at e
  rw [u64_or_nat b a (by omega) (by omega), Nat.or_comm, e, Int.add_comm]
theorem p2_8 (j : Nat) (h : j < 8) : (2 : Int) ^ (8 * j) ≤ 72057594037927936 := by
  have := p2_le (show 8 * j ≤ 56 by omega)
  rwa [show (2 : Int) ^ 56 = 72057594037927936 from by decide] at this
theorem get_bits (xs : List Int) (hx : Bytes xs) (j : Nat) (hj : j < 8) : bits .or .u64 (getTo xs j) (IntKind.u64.wrap (xs.getD j 0 * 2 ^ (8 * j))) = getTo xs (j + 1) := by
  have hb := hx.at_ j
  have hp := p2 (8 * j)
  have hp8 := p2_8 j hj
  have hl := getTo_lt xs hx j
  have m0 : 0 ≤ xs.getD j 0 * 2 ^ (8 * j) := Int.mul_nonneg hb.1 (by omega)
  have m1 : xs.getD j 0 * 2 ^ (8 * j) ≤ 255 * 2 ^ (8 * j) := Int.mul_le_mul_of_nonneg_right hb.2 (by omega)
  rw [wrap_u64, Int.emod_eq_of_lt m0 (by omega), or_join_u64' _ _ (8 * j) m0 (by omega) hl.1 hl.2 (by omega) (Int.mul_emod_left _ _)]
  rfl
theorem getTo_u64 (xs : List Int) (hx : Bytes xs) (j : Nat) (hj : j ≤ 8) : getTo xs j ≤ 18446744073709551615 := by
  have := getTo_lt xs hx j
  have h2 := p2_le (show 8 * j ≤ 64 by omega)
  rw [show (2 : Int) ^ 64 = 18446744073709551616 from by decide] at h2
  omega
set_option maxHeartbeats 800000 in
theorem get_any (v : Value) (xs : List Int) (w : World) (B : Nat) (hv : IR w B .u8 v xs) (hx : Bytes xs) :
    Calls Try.prog 77 #[v] w fun e w' => e = .returned (.int .u64 (getS xs)) ∧ w = w' := by
  obtain ⟨A, c, rfl, hlc, hcm⟩ := hv.form
  unfold maxLen at hcm
  go_enter Try.func77, Try.ntmps77
  go_wp2
  go_loop [3, 4] (fun m i => ∃ (j : Nat) (q : Int), j ≤ 8 ∧ j ≤ xs.length ∧ i = .int .i64 j ∧ m = .int .u64 q ∧ 0 ≤ q ∧ q ≤ 18446744073709551615 ∧ q = getTo xs j) (fun _ i => 8 - (intOf i).toNat)
  case atStart => exact ⟨0, 0, by omega, by omega, rfl, rfl, by omega, by omega, rfl⟩
  case round =>
    obtain ⟨j, q, hj, hjl, rfl, rfl, hq0, hq1, hq⟩ := hrel
    have HQ := Lib.hid hq
    clear hq
    by_cases hlt : j < xs.length ∧ j < 8
    · obtain ⟨hl1, hl2⟩ := hlt
      obtain ⟨b, off, rfl, hb, hcell⟩ := IR.index hv j hl1
      obtain ⟨hu0, hu1⟩ := hx.at_ j
      generalize hu : xs.getD j 0 = u at *
      have HU := Lib.hid hu
      clear hu
      have hd1 : decide ((j : Int) < (xs.length : Int)) = true := by simp; omega
      have hd2 : decide ((j : Int) < 8) = true := by simp; omega
      have hg := get_bits xs hx j hl2
      rw [HU.out, ← HQ.out] at hg
      have HG := Lib.hid hg
      clear hg
      go_wp2
      go_round
      case rel => exact ⟨j + 1, _, by omega, by omega, by go_num, rfl, by rw [HG.out]; exact (getTo_lt xs hx (j + 1)).1, by rw [HG.out]; exact getTo_u64 xs hx (j + 1) (by omega), HG.out⟩
      case measure => simp [intOf]; omega
    · by_cases hl1 : j < xs.length
      · have hl2 : ¬ j < 8 := fun h => hlt ⟨hl1, h⟩
        have hd1 : decide ((j : Int) < (xs.length : Int)) = true := by simp; omega
        have hd2 : decide ((j : Int) < 8) = false := by simp; omega
        go_wp2
        go_ret
        exact ⟨ret_int (by rw [HQ.out]; unfold getS; rw [Nat.min_eq_right (by omega), show j = 8 by omega]), rfl⟩
      · have hd1 : decide ((j : Int) < (xs.length : Int)) = false := by simp; omega
        go_wp2
        go_ret
        exact ⟨ret_int (by rw [HQ.out]; unfold getS; rw [Nat.min_eq_left (by omega), show j = xs.length by omega]), rfl⟩
end Go.Proofs.Yteggcehjpfmikaa.NumBytes
namespace Go.Proofs.Yteggcehjpfmikaa.Rec
open Go.ChangeShapes Go.WideShapes Go.ChangeAt Go.RowKit Go.IntWalk Go.Proofs.NumMath Go.Proofs.Mem NumBytes
set_option linter.unusedVariables false
theorem changes_any (k : Int) (w : World) : Calls Try.prog 67 #[.int .u8 k] w fun e w' => e = .returned (.bool (decide (k = 2) || decide (k = 3))) ∧ w = w' := by
  by_cases h2 : k = 2
  · subst h2
    go_enter Try.func67, Try.ntmps67
    go_wp2
    refine bodyPost_ret (v := .bool true) (by simp [results, Try.results67, go_sem]; try rfl) rfl ?_
    exact ⟨rfl, rfl⟩
  · have d2 : (k == 2) = false := by simpa using h2
    by_cases h3 : k = 3
    · subst h3
      go_enter Try.func67, Try.ntmps67
      go_wp2
      refine bodyPost_ret (v := .bool true) (by simp [results, Try.results67, go_sem]; try rfl) rfl ?_
      exact ⟨rfl, rfl⟩
    · have d3 : (k == 3) = false := by simpa using h3
      go_enter Try.func67, Try.ntmps67
      go_wp2
      refine bodyPost_ret (v := .bool false) (by simp [results, Try.results67, go_sem]; try rfl) rfl ?_
      exact ⟨by simp [h2, h3], rfl⟩
theorem side_any (is : Bool) (v : Value) (xs : List Int) (w : World) (B : Nat) (hv : IR w B .u8 v xs) : Calls Try.prog 82 #[.bool is, v] w fun e w' => e = .returned (.bool (decide (xs.length ≤ 64) && (is || decide (xs.length = 0)))) ∧ w = w' := by
  obtain ⟨A, c, rfl, hlc, hcm⟩ := hv.form
  clear hv
  by_cases h : xs.length ≤ 64
  · have d1 : decide ((xs.length : Int) ≤ 64) = true := by simpa using (by omega : (xs.length : Int) ≤ 64)
    by_cases h0 : xs.length = 0
    · have d0 : ((xs.length : Int) == 0) = true := by simp [h0]
      cases is <;>
      · go_enter Try.func82, Try.ntmps82
        go_wp2
        refine bodyPost_ret (v := .bool true) (by simp [results, Try.results82, go_sem]; try rfl) rfl ?_
        exact ⟨by simp [h0], rfl⟩
    · have d0 : ((xs.length : Int) == 0) = false := by simpa using (by omega : (xs.length : Int) ≠ 0)
      cases is
      · go_enter Try.func82, Try.ntmps82
        go_wp2
        refine bodyPost_ret (v := .bool false) (by simp [results, Try.results82, go_sem]; try rfl) rfl ?_
        exact ⟨by simp [h0], rfl⟩
      · go_enter Try.func82, Try.ntmps82
        go_wp2
        refine bodyPost_ret (v := .bool true) (by simp [results, Try.results82, go_sem]; try rfl) rfl ?_
        exact ⟨by simp [h], rfl⟩
  · have d1 : decide ((xs.length : Int) ≤ 64) = false := by simpa using (by omega : ¬ (xs.length : Int) ≤ 64)
    go_enter Try.func82, Try.ntmps82
    go_wp2
    refine bodyPost_ret (v := .bool false) (by simp [results, Try.results82, go_sem]; try rfl) rfl ?_
    exact ⟨by simp [h], rfl⟩
end Go.Proofs.Yteggcehjpfmikaa.Rec
namespace Go.Proofs.Yteggcehjpfmikaa.Rec
open Go.ChangeShapes Go.WideShapes Go.ChangeAt Go.RowKit Go.IntWalk Go.Proofs.NumMath Go.Proofs.Mem NumBytes
set_option linter.unusedVariables false
structure Wr (w : World) (g : Nat) (v : Value) (xs : List Int) : Prop where
  box : Box w g #[v] 129
  own : w.ownsRow (g + 1) 5 1 v xs.length (xs.map (.int .u8))
  lt : g < w.heap.size
theorem Wr.later {w w' : World} {g : Nat} {v : Value} {xs : List Int} (h : Wr w g v xs) (hb : Below w.heap.size w w') : Wr w' g v xs := ⟨h.box.later hb, own_below h.own hb, Nat.lt_of_lt_of_le h.lt hb.size⟩
theorem below_row {W w' a : World} {B base n size : Nat} {e : TypeId} {v : Value} {xs : List Value} (h : Below B a W) (hown : W.ownsRow base e size v n xs) (hg : W.grownBy w' v.ownBlock) (hb : B ≤ base) (hB : B ≤ W.heap.size) : Below B a w' :=
  h.trans ((Below.refl B W).grown hg hB (fun b hb' => by have := (hown.lt b hb').1; omega))
theorem own_set_far {w : World} {base n size : Nat} {e : TypeId} {v : Value} {xs : List Value} (h : w.ownsRow base e size v n xs) {p : Addr} (hp : p.block < base) (u : Value) : (w.setCell p u).ownsRow base e size v n xs :=
  h.kept (grownBy_set w p u) (by
    cases e : v.ownBlock with
    | none => exact .inl rfl
    | some k =>
      refine .inr (fun e2 => ?_)
      injection e2 with e2
      have := (h.lt k e).1
      omega)
structure WrTo (w w' : World) (g : Nat) (v v' : Value) : Prop where
  fr : Fr (fun x => x = g ∨ v.ownBlock = some x) w w'
  own : v'.ownBlock = v.ownBlock ∨ ∃ k, v'.ownBlock = some k ∧ w.heap.size ≤ k
theorem WrTo.refl (w : World) (g : Nat) (v : Value) : WrTo w w g v v := ⟨Fr.refl _ _, .inl rfl⟩
theorem WrTo.trans {a b c : World} {g : Nat} {u v x : Value} (h : WrTo a b g u v) (k : WrTo b c g v x) : WrTo a c g u x := by
  refine ⟨h.fr.trans' k.fr (fun i hi hs => ?_), ?_⟩
  · rcases hs with hs | hs
    · exact .inl hs
    · rcases h.own with e | ⟨m, e, hm⟩
      · exact .inr (e ▸ hs)
      · rw [e] at hs; injection hs with hs; omega
  · rcases k.own with e | ⟨m, e, hm⟩
    · rcases h.own with e' | ⟨m, e', hm⟩
      · exact .inl (e.trans e')
      · exact .inr ⟨m, e.trans e', hm⟩
    · exact .inr ⟨m, e, Nat.le_trans h.fr.size hm⟩
theorem WrTo.below {a b : World} {g : Nat} {u v : Value} {xs : List Int} (h : WrTo a b g u v) (hw : Wr a g u xs) : Below g a b :=
  h.fr.to_below (fun k hk => by
    rcases hk with rfl | hk
    · exact Nat.le_refl _
    · have := (hw.own.lt k hk).1; omega) (Nat.le_of_lt hw.lt)
theorem WrTo.box {a b : World} {g m : Nat} {u v : Value} {C : Array Value} {t : TypeId} (h : WrTo a b g u v) (hb : Box a m C t) (hm : m ≠ g) (hu : u.ownBlock ≠ some m) : Box b m C t := hb.fr h.fr (fun hs => by
  rcases hs with hs | hs
  · exact hm hs
  · exact hu hs)
theorem WrTo.keep {a b : World} {g : Nat} {u v : Value} {S : Nat → Prop} (h : WrTo a b g u v) (hb : Below a.heap.size a b) : WrTo a b g u u := ⟨Fr.of_below hb, .inl rfl⟩
set_option maxRecDepth 100000 in
set_option maxHeartbeats 4000000 in
theorem number_to (w : World) (g : Nat) (v : Value) (xs : List Int) (h : Wr w g v xs) (hl : xs.length ≤ 100000) (n k : Int) (h0 : 0 ≤ n) (h1 : n ≤ 18446744073709551615) (h2 : 1 ≤ k) (h3 : k ≤ 8) :
    Calls Try.prog 66 #[.pointer (some ⟨g, 0, none⟩), .int .u64 n, .int .i64 k] w fun e w' => e = .returned (.tuple #[]) ∧ ∃ v', Wr w' g v' (xs ++ putS n k.toNat) ∧ WrTo w w' g v v' := by
  obtain ⟨i0, hi0, hz0, hz1, hz2⟩ := info_parts u8_info
  have H := Lib.hid h
  have c0 : w.cell? ⟨g, 0, none⟩ = some v := h.box.cell 0
  clear h
  go_enter Try.func66, Try.ntmps66
  go_region_dies
  all_goals
    rename_i hK
    (with_reducible refine (put_any n k h0 h1 h2 h3 _).mono ?_)
    rintro e w1 ⟨u, rfl, hu, hb1⟩
    have HB1 := Lib.hid ((Below.drew (Below.refl w.heap.size w)).trans hb1)
    have HU := Lib.hid hu
    clear hb1 hu
    refine hK _ _ ?_
    clear hK
  rotate_left
  · have cw := H.out.box.later HB1.out
    have x0 : w1.cell? ⟨g, 0, none⟩ = some v := cw.cell 0
    refine wpAny_ready (rs := [3]) (by decide +kernel) (by simp) ?_
    refine AllReady.cons rfl (fun K hK => ?_) AllReady.nil
    go_simp
    refine hK _ _ ?_
    clear hK cw x0
    have W1 := Lib.hid (H.out.later HB1.out)
    refine wpAny_ready (rs := [7]) (by decide +kernel) (by simp) ?_
    refine AllReady.cons rfl (fun K hK => ?_) AllReady.nil
    refine wp_append_tx _ (.tmp 9) (.tmp 12) _ _ rfl (g + 1) 5 5 i0 .u8 1 Try.underlying129 Try.underlying48 hi0 hz0 hz1 hz2 v xs.length xs rfl W1.out.own w1.heap.size u (putS n k.toNat) rfl (IR.of_own HU.out) (by rw [putS_len]; simp only [maxLen]; omega) (by rw [putS_len]; omega) W1.out.lt ?_
    intro v2 w2 hown2 hg2 ho2
    refine hK _ _ ?_
    have HO2 := Lib.hid ho2
    have FRX := Lib.hid ((Fr.of_below (S := fun x => x = g ∨ v.ownBlock = some x) HB1.out).grown hg2 (fun k e => .inl (.inr e)))
    clear hK ho2
    have hb2 := W1.out.box.grown hg2 (fun e => by have := (W1.out.own.lt g e).1; omega)
    have hz := hg2.size
    have x2 : w2.cell? ⟨g, 0, none⟩ = some v := hb2.cell 0
    have y2 := hb2.frozen 0
    rw [← List.length_append] at hown2
    obtain ⟨A, c, rfl, _, _⟩ := (IR.of_own hown2).form
    have OW := Lib.hid hown2
    have BX := Lib.hid hb2
    clear hown2 hb2 hg2
    refine wpAny_ready (rs := [8]) (by decide +kernel) (by simp) ?_
    refine AllReady.cons rfl (fun K hK => ?_) AllReady.nil
    go_simp
    refine hK _ _ ?_
    clear hK
    refine wpAny_ready (rs := [9]) (by decide +kernel) (by simp) ?_
    refine AllReady.cons rfl (fun K hK => ?_) AllReady.nil
    go_simp
    refine hK _ _ ?_
    clear hK
    refine wpAny_done (by kernel_rfl) ?_ _
    go_end0
    refine ⟨rfl, .slice A (xs ++ putS n k.toNat).length c, ⟨by rw [List.length_append]; exact BX.out.set_ 0 _, own_set_far OW.out (Nat.lt_succ_self g) _, ?_⟩, FRX.out.setCell (p := ⟨g, 0, none⟩) (.inl (.inl rfl)) _, HO2.out.imp id (fun e => ⟨_, e, HB1.out.size⟩)⟩
    exact Nat.lt_of_lt_of_le W1.out.lt (Nat.le_trans hz (by simp))
  · have W1 := Lib.hid (H.out.later HB1.out)
    refine wpAny_ready (rs := [7]) (by decide +kernel) (by simp) ?_
    refine AllReady.cons rfl (fun K hK => ?_) AllReady.nil
    refine wp_append_tx _ (.tmp 9) (.tmp 12) _ _ rfl (g + 1) 5 5 i0 .u8 1 Try.underlying129 Try.underlying48 hi0 hz0 hz1 hz2 v xs.length xs rfl W1.out.own w1.heap.size u (putS n k.toNat) rfl (IR.of_own HU.out) (by rw [putS_len]; simp only [maxLen]; omega) (by rw [putS_len]; omega) W1.out.lt ?_
    intro v2 w2 hown2 hg2 ho2
    refine hK _ _ ?_
    have HO2 := Lib.hid ho2
    have FRX := Lib.hid ((Fr.of_below (S := fun x => x = g ∨ v.ownBlock = some x) HB1.out).grown hg2 (fun k e => .inl (.inr e)))
    clear hK ho2
    have hb2 := W1.out.box.grown hg2 (fun e => by have := (W1.out.own.lt g e).1; omega)
    have hz := hg2.size
    have x2 : w2.cell? ⟨g, 0, none⟩ = some v := hb2.cell 0
    have y2 := hb2.frozen 0
    rw [← List.length_append] at hown2
    obtain ⟨A, c, rfl, _, _⟩ := (IR.of_own hown2).form
    have OW := Lib.hid hown2
    have BX := Lib.hid hb2
    clear hown2 hb2 hg2
    refine wpAny_ready (rs := [8]) (by decide +kernel) (by simp) ?_
    refine AllReady.cons rfl (fun K hK => ?_) AllReady.nil
    go_simp
    refine hK _ _ ?_
    clear hK
    refine wpAny_ready (rs := [9]) (by decide +kernel) (by simp) ?_
    refine AllReady.cons rfl (fun K hK => ?_) AllReady.nil
    go_simp
    refine hK _ _ ?_
    clear hK
    refine wpAny_done (by kernel_rfl) ?_ _
    go_end0
    refine ⟨rfl, .slice A (xs ++ putS n k.toNat).length c, ⟨by rw [List.length_append]; exact BX.out.set_ 0 _, own_set_far OW.out (Nat.lt_succ_self g) _, ?_⟩, FRX.out.setCell (p := ⟨g, 0, none⟩) (.inl (.inl rfl)) _, HO2.out.imp id (fun e => ⟨_, e, HB1.out.size⟩)⟩
    exact Nat.lt_of_lt_of_le W1.out.lt (Nat.le_trans hz (by simp))
theorem number_any (w : World) (g : Nat) (v : Value) (xs : List Int) (h : Wr w g v xs) (hl : xs.length ≤ 100000) (n k : Int) (h0 : 0 ≤ n) (h1 : n ≤ 18446744073709551615) (h2 : 1 ≤ k) (h3 : k ≤ 8) :
    Calls Try.prog 66 #[.pointer (some ⟨g, 0, none⟩), .int .u64 n, .int .i64 k] w fun e w' => e = .returned (.tuple #[]) ∧ ∃ v', Wr w' g v' (xs ++ putS n k.toNat) ∧ Below g w w' :=
  (number_to w g v xs h hl n k h0 h1 h2 h3).mono fun _ _ ⟨he, v', h', ht⟩ => ⟨he, v', h', ht.below h⟩
end Go.Proofs.Yteggcehjpfmikaa.Rec
namespace Go.Proofs.Yteggcehjpfmikaa.Rec
open Go.ChangeShapes Go.WideShapes Go.ChangeAt Go.RowKit Go.IntWalk Go.Proofs.NumMath Go.Proofs.Mem NumBytes
set_option linter.unusedVariables false
@[reducible] def bareC (k t p n : Int) : Array Value := #[.int .u8 k, .int .u32 t, .int .u64 p, .int .u64 n, .int .u32 0, .int .u16 0, .bool false, .bool false, .slice none 0 0, .slice none 0 0, .slice none 0 0, .slice none 0 0]
set_option maxHeartbeats 2000000 in
theorem noughts_zero (w : World) : Calls Try.prog 81 #[.agg #[.int .u32 0, .int .u16 0, .bool false, .bool false, .slice none 0 0, .slice none 0 0]] w fun e w' => e = .returned (.bool true) ∧ Below w.heap.size w w' := by
  go_enter Try.func81, Try.ntmps81
  go_wp2
  refine bodyPost_ret (v := .bool true) (by simp [results, Try.results81, go_sem]; try rfl) rfl ?_
  exact ⟨rfl, new_ (Below.refl _ _) _⟩
theorem changes_no (k : Int) (h : k = 1 ∨ (4 ≤ k ∧ k ≤ 8)) (w : World) : Calls Try.prog 67 #[.int .u8 k] w fun e w' => e = .returned (.bool false) ∧ w = w' := by
  have := changes_any k w
  rwa [show decide (k = 2) = false by simpa using (by omega : k ≠ 2), show decide (k = 3) = false by simpa using (by omega : k ≠ 3)] at this
theorem side_nil (w : World) : Calls Try.prog 82 #[.bool false, .slice none 0 0] w fun e w' => e = .returned (.bool true) ∧ w = w' := side_any false _ [] w 0 (IR.nil w 0 .u8)
set_option maxRecDepth 100000 in
set_option maxHeartbeats 8000000 in
theorem may_bare (k t p n : Int) (hk : k = 1 ∨ (4 ≤ k ∧ k ≤ 7)) (w : World) : Calls Try.prog 65 #[.agg (bareC k t p n)] w fun e w' => e = .returned (.bool true) ∧ Below w.heap.size w w' := by
  have d1 : decide (k < 1) = false := by simp; omega
  have d2 : decide (8 < k) = false := by simp; omega
  have d3 : (k == 8) = false := by simp; omega
  have d4 : (k != 8) = true := by simp; omega
  have hk' : k = 1 ∨ (4 ≤ k ∧ k ≤ 8) := by omega
  have CH := fun W => Lib.hid (changes_no k hk' W)
  clear hk hk'
  have bx := Box.new w (bareC k t p n) 54
  have BX := Lib.hid bx
  clear bx
  go_enter Try.func65, Try.ntmps65
  go_wp2_with (first
    | (go_at_call 67; (with_reducible refine (CH _).out.mono ?_); rintro e w1 ⟨rfl, rfl⟩)
    | (go_at_call 81; (with_reducible refine (noughts_zero _).mono ?_); rintro e w2 ⟨rfl, hb2⟩; have b2 := BX.out.later hb2; have HB2 := Lib.hid (step_ (new_ (Below.refl w.heap.size w) _) hb2); have z2 : w2.cell? ⟨w.heap.size, 6, none⟩ = some (.bool false) := b2.cell 6; have z3 : w2.cell? ⟨w.heap.size, 7, none⟩ = some (.bool false) := b2.cell 7; have z4 : w2.cell? ⟨w.heap.size, 8, none⟩ = some (.slice none 0 0) := b2.cell 8; have z5 : w2.cell? ⟨w.heap.size, 9, none⟩ = some (.slice none 0 0) := b2.cell 9; have z6 : w2.cell? ⟨w.heap.size, 10, none⟩ = some (.slice none 0 0) := b2.cell 10; have z7 : w2.cell? ⟨w.heap.size, 11, none⟩ = some (.slice none 0 0) := b2.cell 11; clear hb2 b2))
  go_loopw [51] (fun c wr => c = .int .i64 0 ∧ wr = w2) (fun c _ => 0)
  case atStart => exact ⟨rfl, rfl⟩
  case round =>
    obtain ⟨rfl, rfl⟩ := hrel
    go_wp2_with (first
      | (go_at_call 82; (with_reducible refine (side_nil _).mono ?_); rintro e w3 ⟨rfl, rfl⟩))
    refine bodyPost_ret (v := .bool true) (by simp [results, Try.results65, go_sem]; try rfl) rfl ?_
    exact ⟨rfl, HB2.out⟩
end Go.Proofs.Yteggcehjpfmikaa.Rec
namespace Go.Proofs.Yteggcehjpfmikaa.SrOpen
open Go.ChangeShapes Go.WideShapes Go.ChangeAt Go.RowKit Go.IntWalk Go.Proofs.Mem Law
set_option linter.unusedVariables false
set_option maxRecDepth 100000
section
variable {H : Type} {enc : TypeId × Value → H} {W : World}
theorem inner {n : Nat} {c0 : Value} {y : DataW H × List MemPlace} (hf : DataW.trod enc Try.prog W 0 (fun _ => true) true n 48 [c0] = some y) : ∃ xs : List Int, IR W W.heap.size .u8 c0 xs ∧ Bytes xs := by
  rcases open_ints Try.underlying48 Try.underlying5 (by kernel_rfl) hf with ⟨hcs, _⟩ | ⟨x, l, c, zs, hcs, _, hl, hm, hz, _, hcell, hwz⟩
  · simp at hcs
    subst hcs
    exact ⟨[], IR.nil _ _ _, Bytes.nil⟩
  · simp at hcs
    subst hcs
    have hz' : zs.length = c := by simpa using hz
    have hlen : (zs.take l).length = l := by rw [List.length_take]; omega
    refine ⟨zs.take l, ⟨some x, c, by rw [hlen], by omega, hm, (fun hh => by cases hh), fun i hi => ?_⟩, fun n hn => bounds_u8 (hwz n (List.mem_of_mem_take hn))⟩
    rw [hlen] at hi
    obtain ⟨b, off, rfl, hc'⟩ := ints_at hcell (by omega)
    have h1 := hc' i (by omega)
    refine ⟨b, off, rfl, lt_of_cell h1, ?_⟩
    rw [h1]
    simp [List.getD, hi]
end
end Go.Proofs.Yteggcehjpfmikaa.SrOpen
