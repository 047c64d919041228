import Derived.Test.YteggcehjpfmikaaWt0
import Derived.Test.YteggcehjpfmikaaWt1
import Derived.Test.YteggcehjpfmikaaWt2
namespace Go.Proofs.Yteggcehjpfmikaa.Disk
open Go.ChangeShapes Go.WideShapes Go.ChangeAt Go.RowKit Go.IntWalk Go.Proofs.Mem Go.Proofs.Each
set_option linter.unusedVariables false
set_option linter.unusedSimpArgs false
def kp (K : Int) (V : Nat) : Nat := min (max K 0).toNat V
def tp (T : Int) : Nat := min (max T 0).toNat 128
def Se.crash (s : Se) (K T : Int) : Se :=
  if kp K s.wait.length < s.wait.length then ⟨(s.wait.getD (kp K s.wait.length) []).take (tp T) ++ (s.keep (kp K s.wait.length)).drop (tp T), []⟩ else ⟨s.keep (kp K s.wait.length), []⟩
theorem Spot.later {tS : TypeId} {w w' : World} {col : Nat → Nat} {c : Nat} {v : Value} {l : List Se} {uv : List Pl} {n g cap : Nat} {C : Array Value} {p : Pl} {s : Se} (h : Spot tS w col c v l uv n g cap C p s) (hb : Below w.heap.size w w') : Spot tS w' col c v l uv n g cap C p s :=
  ⟨h.hv, h.hcap, h.hp, h.hs, h.hcol, h.box.later hb, h.c0, h.c1, h.sec.fr (S := fun _ => False) (Fr.of_below hb) (fun _ _ h => h.elim) (fun _ _ => rfl), h.size⟩
theorem own_g {W : World} {b n : Nat} {e : TypeId} {v : Value} {xs : List Value} (h : W.ownsRow b e 1 v n xs) (hn : 0 < n) : ∃ g c, v = .slice (some ⟨g, 0, none⟩) n c ∧ n ≤ c := by
  rcases h.2 with ⟨_, h0⟩ | ⟨g, cap, _, e1, _, _, h3, _⟩
  · omega
  · exact ⟨g, cap, e1, h3⟩
theorem crash_end {w w4 : World} {S : Nat → Prop} {b : Nat} {D : Dv} {col : Nat → Nat} {fv : Nat → Value} {uv : Nat → List Pl} {i n g cap : Nat} {C : Array Value} {p : Pl} {s : Se} (h : DA w S b D col fv uv) (hi : i < 2)
    (sp : Spot 78 w col (fc i) (fv i) (D.f i) (uv i) n g cap C p s) (hf : Fr (fun x => x = g ∨ col x = fc i + 1 + n) w w4) (z : Value) (zs : List Int) (hz : w4.ownsRow 0 5 1 z 128 (zs.map (.int .u8))) (hzl : zs.length = 128) (hzb : Bytes zs)
    (hzc : ∀ x, z.ownBlock = some x → x < w.heap.size ∧ col x = fc i + 1 + n) (hb : Box w4 g ((C.setIfInBounds (2 * n) z).setIfInBounds (2 * n + 1) (.slice none 0 0)) 78) :
    (∃ col' uv', DA w4 (growS w w4 S) b (D.upd i n ⟨zs, []⟩) col' fv uv') ∧ Fr S w w4 := by
  have hse : SeAt w4 (colN w w4 col (fc i + 1 + n)) (fc i + 1 + n) ⟨zs, []⟩ z (.slice none 0 0) [] :=
    SeAt.bare ⟨hz, fun x hx => by rw [colN_old (hzc x hx).1]; exact (hzc x hx).2⟩ hzl hzb
  refine ⟨⟨_, _, h.upd hi sp hf ⟨zs, []⟩ (z, .slice none 0 0, []) hb hse⟩, hf.mono (fun x hx hs => h.mine x ?_)⟩
  rcases hs with hs | hs
  · rw [hs, sp.hcol]; unfold fc; omega
  · omega
theorem keep_at (N : Int) (n : Nat) (hN : N = n) (w : World) (g o : Nat) (C : Array Value) (T : TypeId) (u v : Value) (vs : List Value) (hb : Box w g C T) (hu : C[o]? = some u) (hv : C[o + 1]? = some v) (hw : w.ownsRow 0 48 1 v vs.length vs) (hn : n ≤ vs.length) (hl : vs.length ≤ 100000) (hs : ∀ x ∈ vs, ∃ A c, x = .slice A 128 c) :
    Calls Try.prog 52 #[.pointer (some ⟨g, o, none⟩), .int .i64 N] w fun e w' => e = .returned (.tuple #[]) ∧ Box w' g (C.setIfInBounds o (if n = 0 then u else vs.getD (n - 1) u)) T ∧ Fr (fun x => x = g) w w' := by
  subst hN; exact keep_any w g o C T u v vs hb hu hv hw n hn hl hs
theorem own_set_far' {W : World} {b n s : Nat} {e : TypeId} {v : Value} {xs : List Value} (h : W.ownsRow b e s v n xs) {p : Addr} (hp : v.ownBlock ≠ some p.block) (u : Value) : (W.setCell p u).ownsRow b e s v n xs :=
  h.kept (grownBy_set W p u) (.inr hp)
theorem own_ir' {W : World} {b n : Nat} {v : Value} {xs : List Int} (h : W.ownsRow b 5 1 v n (xs.map (.int .u8))) (hl : xs.length = n) : IR W W.heap.size .u8 v xs := by subst hl; exact IR.of_own h
set_option maxRecDepth 100000 in
set_option maxHeartbeats 16000000 in
theorem crash_at {w : World} {S : Nat → Prop} {b : Nat} {D : Dv} {col : Nat → Nat} {fv : Nat → Value} {uv : Nat → List Pl} (h : DA w S b D col fv uv) {i n g cap : Nat} {C : Array Value} {p : Pl} {s : Se} (hi : i < 2)
    (sp : Spot 78 w col (fc i) (fv i) (D.f i) (uv i) n g cap C p s) (F se K T : Int) (hw : s.wait.length ≤ 100000) :
    Calls Try.prog 32 #[.pointer (some ⟨g, 2 * n, none⟩), .agg #[.int .u8 F, .int .i64 se, .int .i64 K, .int .i64 T]] w fun e w' => e = .returned (.tuple #[]) ∧ (∃ col' uv', DA w' (growS w w' S) b (D.upd i n (s.crash K T)) col' fv uv') ∧ Fr S w w' := by
  obtain ⟨Av, cv, ev, hlv⟩ := sp.sec.form_v
  obtain ⟨V, hV⟩ : ∃ V, V = p.2.2.length := ⟨_, rfl⟩
  rw [← hV] at ev hlv
  have HVL := Lib.hid hV
  have HVB := Lib.hid (show V ≤ 100000 by rw [hV, sp.sec.n]; exact hw)
  have BF := Lib.hid (Box.new w #[.int .u8 F, .int .i64 se, .int .i64 K, .int .i64 T] 81)
  have BX1 := Lib.hid (sp.box.alloc (.cells #[.int .u8 F, .int .i64 se, .int .i64 K, .int .i64 T] 81))
  have kf := BF.out.cell
  have kg := BX1.out.cell (2 * n + 1)
  rw [sp.c1, ev] at kg
  have HH := Lib.hid h
  have SP := Lib.hid sp
  have EV := Lib.hid ev
  have HGW := Lib.hid sp.box.lt
  have HOLD := Lib.hid (show ∀ x, col x ≠ 0 → x < w.heap.size from fun x hx => h.old x (h.mine x hx))
  clear h sp ev hV hw hlv
  go_enter Try.func32, Try.ntmps32
  go_wp2_with fail
  by_cases hK0 : K < 0
  · go_quiet (fail)
    obtain ⟨w1, hw1⟩ : ∃ w1, (w.alloc (.cells #[.int .u8 F, .int .i64 se, .int .i64 K, .int .i64 T] 81)).drewN nq = w1 := ⟨_, rfl⟩
    have HB1 := Lib.hid (show Below w.heap.size w w1 by rw [← hw1]; exact below_drewN (new_ (Below.refl _ _) _) nq)
    have SP1 := Lib.hid (SP.out.later HB1.out)
    have BT1 := Lib.hid (show Box w1 w.heap.size #[.int .u8 F, .int .i64 se, .int .i64 K, .int .i64 T] 81 by rw [← hw1]; exact BF.out.drewN nq)
    try rw [hw1]
    clear hw1 kf kg BF BX1
    have HKV0 := Lib.hid (Nat.zero_le V)
    have hkp : kp K V = 0 := by unfold kp; omega
    have HKE := Lib.hid hkp
    clear hkp hK0
    have KP := Lib.hid (keep_at (0) (0) rfl w1 g (2 * n) C 78 p.1 p.2.1 p.2.2 SP1.out.box SP1.out.c0 SP1.out.c1 SP1.out.sec.wait.1 (by have := HVL.out; have := HKV0.out; omega) (by have := HVL.out; have := HVB.out; omega) SP1.out.sec.form_w)
    have hkeep := SP1.out.sec.keep (0) (by have := HVL.out; have := HKV0.out; omega)
    obtain ⟨z, hz⟩ : ∃ z, z = (if 0 = 0 then p.1 else p.2.2.getD (0 - 1) p.1) := ⟨_, rfl⟩
    rw [← hz] at KP hkeep
    obtain ⟨gz, cz, ez, _⟩ := own_g hkeep.1.1 (by decide)
    subst ez
    obtain ⟨zs, hzs⟩ : ∃ zs, zs = s.keep (0) := ⟨_, rfl⟩
    rw [← hzs] at hkeep
    have HKP := Lib.hid hkeep
    have HZS := Lib.hid hzs
    clear hz hkeep hzs
    go_wp2_with fail
    (with_reducible refine KP.out.mono ?_)
    rintro e w2 ⟨rfl, hb2, hf2⟩
    have BX2 := Lib.hid hb2
    have HF2 := Lib.hid hf2
    have CV := Lib.hid (show (C.setIfInBounds (2 * n) (.slice (some ⟨gz, 0, none⟩) 128 cz))[2 * n + 1]? = some (.slice Av V cv) by rw [Array.getElem?_setIfInBounds_ne (by omega), ← EV.out]; exact SP1.out.c1)
    have CZ := Lib.hid (show (C.setIfInBounds (2 * n) (.slice (some ⟨gz, 0, none⟩) 128 cz))[2 * n]? = some (.slice (some ⟨gz, 0, none⟩) 128 cz) by
      have := (Array.getElem?_eq_some_iff.1 SP1.out.c0).1
      rw [Array.getElem?_setIfInBounds_self_of_lt this])
    have kv2 : w2.cell? ⟨g, 2 * n + 1, none⟩ = some (.slice Av V cv) := (BX2.out.cell _).trans CV.out
    have fv2 := BX2.out.frozen (2 * n + 1)
    have FT2 := Lib.hid (BT1.out.fr hf2 (by have := SP1.out.box.lt; have := HGW.out; omega))
    have kt := FT2.out.cell
    have HGZ := Lib.hid (show gz < w.heap.size ∧ col gz = fc i + 1 + n by
      have h9 := HKP.out.1.2 gz rfl
      exact ⟨HOLD.out gz (by rw [h9]; unfold fc; omega), h9⟩)
    have HGG := Lib.hid (show gz ≠ g from fun e => by have h1 := HGZ.out.2; rw [e, SP1.out.hcol] at h1; omega)
    clear hb2 hf2
    have hlt : 0 < V ∨ 0 = V := by have := HKV0.out; omega
    rcases hlt with hlt | hlt
    · skip
      have dkv : decide ((0) < (V : Int)) = true := by simp; omega
      have dkvn : decide (0 < V) = true := by simp; omega
      have HKV := Lib.hid hlt
      have hlv : 0 < p.2.2.length := by rw [← HVL.out]; exact hlt
      have hlw : 0 < s.wait.length := by rw [← SP1.out.sec.n]; exact hlv
      obtain ⟨gv, cv', eva, _⟩ : ∃ gv cv', (Value.slice Av V cv) = .slice (some ⟨gv, 0, none⟩) V cv' ∧ V ≤ cv' := by
        have h9 := SP1.out.sec.wait.1
        rw [EV.out, ← HVL.out] at h9
        exact own_g h9 (by omega)
      injection eva with eva1 eva2 eva3
      subst eva1 eva3
      have OV1 := SP1.out.sec.wait.1
      rw [EV.out, ← HVL.out] at OV1
      have OV2 := Lib.hid (own_frS OV1 HF2.out (fun x hx hs => by
        have h8 := SP1.out.sec.wait.2 x (by rw [EV.out]; exact hx)
        rw [hs, SP1.out.hcol] at h8; omega))
      have hrow := SP1.out.sec.row (0) _ _ (List.getElem?_eq_getElem hlv) (List.getElem?_eq_getElem hlw)
      have hrl := SP1.out.sec.lens _ (List.getElem_mem hlw)
      have hrb := SP1.out.sec.byts _ (List.getElem_mem hlw)
      obtain ⟨xs, hxs⟩ : ∃ xs, xs = s.wait[0] := ⟨_, rfl⟩
      rw [← hxs] at hrow hrl hrb
      obtain ⟨gx, cx, ex, hcx⟩ := own_g hrow.1 (by decide)
      have HCX := Lib.hid hcx
      clear hcx
      have EX := Lib.hid (show p.2.2[0]? = some (.slice (some ⟨gx, 0, none⟩) 128 cx) by rw [List.getElem?_eq_getElem hlv, ex])
      rw [ex] at hrow
      have HXL := Lib.hid hrl
      have HXB := Lib.hid hrb
      have HXS := Lib.hid (show s.wait.getD (0) [] = xs by rw [List.getD_eq_getElem?_getD, List.getElem?_eq_getElem hlw, hxs]; rfl)
      have IX2 := Lib.hid (show IR w2 w2.heap.size .u8 (.slice (some ⟨gx, 0, none⟩) 128 cx) xs from own_ir' (own_frS hrow.1 HF2.out (fun x hx hs => by
        have h8 := hrow.2 x hx
        rw [hs, SP1.out.hcol] at h8; omega)) hrl)
      have RZ2 := Lib.hid (show RowAt 5 w2 0 gz (.slice (some ⟨gz, 0, none⟩) 128 cz) zs from ⟨⟨cz, by rw [HKP.out.2.1]⟩, by rw [HKP.out.2.1]; exact own_frS HKP.out.1.1 HF2.out (fun x hx hs => by injection hx with hx; exact HGG.out (hx.trans hs))⟩)
      have HZL := Lib.hid HKP.out.2.1
      clear hrow hrl hrb ex OV1 hxs hlt hlv hlw
      by_cases hT0 : T < 0
      · skip
        have HT := Lib.hid (show 0 ≤ 128 by decide)
        go_wp2
        refine wp_region_end (by kernel_rfl) (by kernel_rfl) 13 (fun W W' => Fr (fun x => x = gz) W W') (fun W => Fr (fun x => x = gz) w2 W ∧ RowAt 5 W 0 gz (.slice (some ⟨gz, 0, none⟩) 128 cz) (xs.take 0 ++ zs.drop (xs.take 0).length)) [(fun v _ => v = .pointer (some ⟨g, 2 * n, none⟩)), (fun v _ => v = .pointer (some ⟨g, 2 * n, none⟩)), (fun v _ => v = .pointer (some ⟨g, 2 * n, none⟩)), (fun v _ => v = .slice (some ⟨gz, 0, none⟩) 128 cz), (fun v _ => v = .pointer (some ⟨g, 2 * n, none⟩)), (fun v _ => v = .pointer (some ⟨g, 2 * n, none⟩)), (fun v _ => v = .pointer (some ⟨g, 2 * n + 1, none⟩)), (fun v _ => v = .slice (some ⟨gv, 0, none⟩) V cv), (fun v _ => v = .int .i64 0), (fun v _ => v = .pointer (some ⟨gv, 0, none⟩)), (fun v _ => v = .slice (some ⟨gx, 0, none⟩) 128 cx), (fun v _ => v = .int .i64 0), (fun v _ => v = .slice (some ⟨gx, 0, none⟩) 0 cx), (fun v _ => v = undef)] (fun W W' hb h => ⟨h.1.below hb, h.2.sc (Sc.of_below hb)⟩) ?_ (fun vals => ?_) (fun vals W hfin hall => ?_) (by decide)
        · intro j v W W' hj hr h
          match j, hj, h with
          | 0, _, h => exact h
          | 1, _, h => exact h
          | 2, _, h => exact h
          | 3, _, h => exact h
          | 4, _, h => exact h
          | 5, _, h => exact h
          | 6, _, h => exact h
          | 7, _, h => exact h
          | 8, _, h => exact h
          | 9, _, h => exact h
          | 10, _, h => exact h
          | 11, _, h => exact h
          | 12, _, h => exact h
          | 13, hj, _ => exact absurd rfl hj
          | _ + 14, _, _ => trivial
        · simp only [ObL, Act.put, List.setIfInBounds_toArray, List.set_cons_succ, List.set_cons_zero]
          refine ⟨?_, ?_, ?_, ?_, ?_, ?_, ?_, ?_, ?_, ?_, ?_, ?_, ?_, ?_, trivial⟩
          · intro L W hL hk hC hw
            clear hw
            clear hL hC hk
            refine step_plain rfl ?_
            go_simp
            first | exact ⟨Re.same (by decide), Fe.val (by decide) rfl rfl⟩ | exact ⟨_, rfl, Re.same (by decide), Fe.val (by decide) rfl rfl⟩
          · intro L W hL hk hC hw
            have f0 : vals 0 = .pointer (some ⟨g, 2 * n, none⟩) := Fe.get (hw ⟨0, .data⟩ (by simp) rfl) (by decide)
            clear hw
            clear hL hC hk
            refine step_plain rfl ?_
            go_simp
            first | exact ⟨Re.same (by decide), Fe.val (by decide) rfl rfl⟩ | exact ⟨_, rfl, Re.same (by decide), Fe.val (by decide) rfl rfl⟩
          · intro L W hL hk hC hw
            have f1 : vals 1 = .pointer (some ⟨g, 2 * n, none⟩) := Fe.get (hw ⟨1, .data⟩ (by simp) rfl) (by decide)
            clear hw
            clear hL hC hk
            refine step_plain rfl ?_
            go_simp
            first | exact ⟨Re.same (by decide), Fe.val (by decide) rfl rfl⟩ | exact ⟨_, rfl, Re.same (by decide), Fe.val (by decide) rfl rfl⟩
          · intro L W hL hk hC hw
            have f2 : vals 2 = .pointer (some ⟨g, 2 * n, none⟩) := Fe.get (hw ⟨2, .data⟩ (by simp) rfl) (by decide)
            clear hw
            have hb := hC (hL.not_yet hk 13 8 (by decide +kernel))
            have kc : W.cell? ⟨g, 2 * n, none⟩ = some (.slice (some ⟨gz, 0, none⟩) 128 cz) := ((BX2.out.later hb).cell (2 * n)).trans CZ.out
            clear hL hC hk hb
            refine step_plain rfl ?_
            go_simp
            first | exact ⟨Re.same (by decide), Fe.val (by decide) rfl rfl⟩ | exact ⟨_, rfl, Re.same (by decide), Fe.val (by decide) rfl rfl⟩
          · intro L W hL hk hC hw
            clear hw
            clear hL hC hk
            refine step_plain rfl ?_
            go_simp
            first | exact ⟨Re.same (by decide), Fe.val (by decide) rfl rfl⟩ | exact ⟨_, rfl, Re.same (by decide), Fe.val (by decide) rfl rfl⟩
          · intro L W hL hk hC hw
            have f4 : vals 4 = .pointer (some ⟨g, 2 * n, none⟩) := Fe.get (hw ⟨4, .data⟩ (by simp) rfl) (by decide)
            clear hw
            clear hL hC hk
            refine step_plain rfl ?_
            go_simp
            first | exact ⟨Re.same (by decide), Fe.val (by decide) rfl rfl⟩ | exact ⟨_, rfl, Re.same (by decide), Fe.val (by decide) rfl rfl⟩
          · intro L W hL hk hC hw
            have f5 : vals 5 = .pointer (some ⟨g, 2 * n, none⟩) := Fe.get (hw ⟨5, .data⟩ (by simp) rfl) (by decide)
            clear hw
            clear hL hC hk
            refine step_plain rfl ?_
            go_simp
            first | exact ⟨Re.same (by decide), Fe.val (by decide) rfl rfl⟩ | exact ⟨_, rfl, Re.same (by decide), Fe.val (by decide) rfl rfl⟩
          · intro L W hL hk hC hw
            have f6 : vals 6 = .pointer (some ⟨g, 2 * n + 1, none⟩) := Fe.get (hw ⟨6, .data⟩ (by simp) rfl) (by decide)
            clear hw
            have hb := hC (hL.not_yet hk 13 8 (by decide +kernel))
            have kc : W.cell? ⟨g, 2 * n + 1, none⟩ = some (.slice (some ⟨gv, 0, none⟩) V cv) := ((BX2.out.later hb).cell (2 * n + 1)).trans CV.out
            clear hL hC hk hb
            refine step_plain rfl ?_
            go_simp
            first | exact ⟨Re.same (by decide), Fe.val (by decide) rfl rfl⟩ | exact ⟨_, rfl, Re.same (by decide), Fe.val (by decide) rfl rfl⟩
          · intro L W hL hk hC hw
            clear hw
            clear hL hC hk
            refine step_plain rfl ?_
            go_simp
            first | exact ⟨Re.same (by decide), Fe.val (by decide) rfl rfl⟩ | exact ⟨_, rfl, Re.same (by decide), Fe.val (by decide) rfl rfl⟩
          · intro L W hL hk hC hw
            have f7 : vals 7 = .slice (some ⟨gv, 0, none⟩) V cv := Fe.get (hw ⟨7, .data⟩ (by simp) rfl) (by decide)
            have f8 : vals 8 = .int .i64 0 := Fe.get (hw ⟨8, .data⟩ (by simp) rfl) (by decide)
            clear hw
            have hb := hC (hL.not_yet hk 13 8 (by decide +kernel))
            have h9 : 0 < V := HKV.out
            clear hL hC hk hb
            refine step_plain rfl ?_
            go_simp
            first | exact ⟨Re.same (by decide), Fe.val (by decide) rfl rfl⟩ | exact ⟨_, rfl, Re.same (by decide), Fe.val (by decide) rfl rfl⟩
          · intro L W hL hk hC hw
            have f9 : vals 9 = .pointer (some ⟨gv, 0, none⟩) := Fe.get (hw ⟨9, .data⟩ (by simp) rfl) (by decide)
            clear hw
            have hb := hC (hL.not_yet hk 13 8 (by decide +kernel))
            have kc : W.cell? ⟨gv, 0, none⟩ = some (.slice (some ⟨gx, 0, none⟩) 128 cx) := by rw [(own_below OV2.out hb).cellAt 0 (by have := HKV.out; omega)]; exact EX.out
            clear hL hC hk hb
            refine step_plain rfl ?_
            go_simp
            first | exact ⟨Re.same (by decide), Fe.val (by decide) rfl rfl⟩ | exact ⟨_, rfl, Re.same (by decide), Fe.val (by decide) rfl rfl⟩
          · intro L W hL hk hC hw
            clear hw
            clear hL hC hk
            refine step_plain rfl ?_
            go_simp
            first | exact ⟨Re.same (by decide), Fe.val (by decide) rfl rfl⟩ | exact ⟨_, rfl, Re.same (by decide), Fe.val (by decide) rfl rfl⟩
          · intro L W hL hk hC hw
            have f10 : vals 10 = .slice (some ⟨gx, 0, none⟩) 128 cx := Fe.get (hw ⟨10, .data⟩ (by simp) rfl) (by decide)
            have f11 : vals 11 = .int .i64 0 := Fe.get (hw ⟨11, .data⟩ (by simp) rfl) (by decide)
            clear hw
            have hb := hC (hL.not_yet hk 13 8 (by decide +kernel))
            have h9 : 0 ≤ cx := by have := HCX.out; have := HT.out; omega
            have h9i : 0 ≤ (cx : Int) := by omega
            clear hL hC hk hb
            refine step_plain rfl ?_
            go_simp
            first | exact ⟨Re.same (by decide), Fe.val (by decide) rfl rfl⟩ | exact ⟨_, rfl, Re.same (by decide), Fe.val (by decide) rfl rfl⟩
          · intro L W hL hk hC hw
            have f3 : vals 3 = .slice (some ⟨gz, 0, none⟩) 128 cz := Fe.get (hw ⟨3, .data⟩ (by simp) rfl) (by decide)
            have f12 : vals 12 = .slice (some ⟨gx, 0, none⟩) 0 cx := Fe.get (hw ⟨12, .data⟩ (by simp) rfl) (by decide)
            clear hw
            have hb := hC hk
            have rz := RowAt.sc RZ2.out (Sc.of_below hb)
            have rx := (IX2.out.below hb).more hb.size
            clear hL hC hk
            refine step_plain rfl ?_
            refine Cpy.wp_copy_row W _ _ _ _ rfl 5 Try.underlying48 (by kernel_rfl) 5 0 gz 128 cz zs HZL.out f3 rz W.heap.size ⟨gx, 0, none⟩ cx 0 (xs.take 0) (by rw [List.length_take, HXL.out]; have := HT.out; omega) f12 (rx.take (by have := HT.out; omega)) HT.out ?_
            intro w9 r9 g9
            exact ⟨_, rfl, Re.last (Fr.grown (Fr.refl _ _) g9 (fun q e => .inl (Option.some.inj e).symm)), Fe.last ⟨Fr.grown (Fr.of_below hb) g9 (fun q e => .inl (Option.some.inj e).symm), r9⟩⟩
        · simp only [TL, Act.put, List.setIfInBounds_toArray, List.set_cons_succ, List.set_cons_zero]
          have hb4 := (BX2.out.fr hfin.1 (fun e => HGG.out e.symm)).set_ (2 * n + 1) (.slice none 0 0)
          have kv3 : W.cell? ⟨g, 2 * n + 1, none⟩ = some (.slice (some ⟨gv, 0, none⟩) V cv) := ((BX2.out.fr hfin.1 (fun e => HGG.out e.symm)).cell _).trans CV.out
          have fv3 := (BX2.out.fr hfin.1 (fun e => HGG.out e.symm)).frozen (2 * n + 1)
          have hf3 : Fr (fun x => x = g ∨ col x = fc i + 1 + n) w W := Fr.sub (Fr.sub (Fr.of_below HB1.out) HF2.out (fun x _ hx => .inl hx)) hfin.1 (fun x _ hx => by rw [hx]; exact .inr HGZ.out.2)
          have hf4 := Fr.setCell hf3 (p := ⟨g, 2 * n + 1, none⟩) (.inl (.inl rfl)) (.slice none 0 0)
          have hl4 : (xs.take 0 ++ zs.drop (xs.take 0).length).length = 128 := by rw [List.length_append, List.length_drop, List.length_take, HXL.out, HZL.out]; omega
          have hr0 := hfin.2.own
          rw [hl4] at hr0
          have hz4 := own_set_far' hr0 (p := ⟨g, 2 * n + 1, none⟩) (fun hx => by injection hx with hx; exact HGG.out hx) (.slice none 0 0)
          have hby4 : Bytes (xs.take 0 ++ zs.drop (xs.take 0).length) := Bytes.app (fun x hx => HXB.out x (List.mem_of_mem_take hx)) (fun x hx => HKP.out.2.2 x (List.mem_of_mem_drop hx))
          clear hr0 hf3 hfin
          clear hall
          go_wp2
          obtain ⟨w4, hw4⟩ : ∃ w4, W.setCell ⟨g, 2 * n + 1, none⟩ (.slice none 0 0) = w4 := ⟨_, rfl⟩
          rw [hw4] at hb4 hf4 hz4
          have hend := crash_end HH.out hi SP.out (w4 := w4) (hf4) (.slice (some ⟨gz, 0, none⟩) 128 cz) (xs.take 0 ++ zs.drop (xs.take 0).length) hz4 (hl4) (hby4) (fun x hx => by injection hx with hx; rw [← hx]; exact HGZ.out) hb4
          have HE := Lib.hid hend
          have hsp : s.crash K T = ⟨xs.take 0 ++ zs.drop (xs.take 0).length, []⟩ := by
            have e1 : s.wait.length = V := by rw [HVL.out, SP1.out.sec.n]
            unfold Se.crash; rw [e1, HKE.out, if_pos HKV.out, HXS.out, HZS.out, show tp T = 0 by unfold tp; omega, List.length_take, HXL.out, Nat.min_eq_left HT.out]
          have HSP := Lib.hid hsp
          clear hsp
          clear hend hf4 hz4 hl4 hby4 hb4
          try rw [hw4]
          clear hw4
          go_end0
          rw [HSP.out]
          exact ⟨rfl, HE.out.1, HE.out.2⟩
      · by_cases hT1 : T ≤ 128
        · skip
          obtain ⟨t, ht⟩ : ∃ t : Nat, T = t := ⟨T.toNat, by omega⟩
          subst ht
          have HT := Lib.hid (show t ≤ 128 by omega)
          have hti : (t : Int) ≤ 128 := by omega
          go_wp2
          refine wp_region_end (by kernel_rfl) (by kernel_rfl) 13 (fun W W' => Fr (fun x => x = gz) W W') (fun W => Fr (fun x => x = gz) w2 W ∧ RowAt 5 W 0 gz (.slice (some ⟨gz, 0, none⟩) 128 cz) (xs.take t ++ zs.drop (xs.take t).length)) [(fun v _ => v = .pointer (some ⟨g, 2 * n, none⟩)), (fun v _ => v = .pointer (some ⟨g, 2 * n, none⟩)), (fun v _ => v = .pointer (some ⟨g, 2 * n, none⟩)), (fun v _ => v = .slice (some ⟨gz, 0, none⟩) 128 cz), (fun v _ => v = .pointer (some ⟨g, 2 * n, none⟩)), (fun v _ => v = .pointer (some ⟨g, 2 * n, none⟩)), (fun v _ => v = .pointer (some ⟨g, 2 * n + 1, none⟩)), (fun v _ => v = .slice (some ⟨gv, 0, none⟩) V cv), (fun v _ => v = .int .i64 0), (fun v _ => v = .pointer (some ⟨gv, 0, none⟩)), (fun v _ => v = .slice (some ⟨gx, 0, none⟩) 128 cx), (fun v _ => v = .int .i64 (t : Int)), (fun v _ => v = .slice (some ⟨gx, 0, none⟩) t cx), (fun v _ => v = undef)] (fun W W' hb h => ⟨h.1.below hb, h.2.sc (Sc.of_below hb)⟩) ?_ (fun vals => ?_) (fun vals W hfin hall => ?_) (by decide)
          · intro j v W W' hj hr h
            match j, hj, h with
            | 0, _, h => exact h
            | 1, _, h => exact h
            | 2, _, h => exact h
            | 3, _, h => exact h
            | 4, _, h => exact h
            | 5, _, h => exact h
            | 6, _, h => exact h
            | 7, _, h => exact h
            | 8, _, h => exact h
            | 9, _, h => exact h
            | 10, _, h => exact h
            | 11, _, h => exact h
            | 12, _, h => exact h
            | 13, hj, _ => exact absurd rfl hj
            | _ + 14, _, _ => trivial
          · simp only [ObL, Act.put, List.setIfInBounds_toArray, List.set_cons_succ, List.set_cons_zero]
            refine ⟨?_, ?_, ?_, ?_, ?_, ?_, ?_, ?_, ?_, ?_, ?_, ?_, ?_, ?_, trivial⟩
            · intro L W hL hk hC hw
              clear hw
              clear hL hC hk
              refine step_plain rfl ?_
              go_simp
              first | exact ⟨Re.same (by decide), Fe.val (by decide) rfl rfl⟩ | exact ⟨_, rfl, Re.same (by decide), Fe.val (by decide) rfl rfl⟩
            · intro L W hL hk hC hw
              have f0 : vals 0 = .pointer (some ⟨g, 2 * n, none⟩) := Fe.get (hw ⟨0, .data⟩ (by simp) rfl) (by decide)
              clear hw
              clear hL hC hk
              refine step_plain rfl ?_
              go_simp
              first | exact ⟨Re.same (by decide), Fe.val (by decide) rfl rfl⟩ | exact ⟨_, rfl, Re.same (by decide), Fe.val (by decide) rfl rfl⟩
            · intro L W hL hk hC hw
              have f1 : vals 1 = .pointer (some ⟨g, 2 * n, none⟩) := Fe.get (hw ⟨1, .data⟩ (by simp) rfl) (by decide)
              clear hw
              clear hL hC hk
              refine step_plain rfl ?_
              go_simp
              first | exact ⟨Re.same (by decide), Fe.val (by decide) rfl rfl⟩ | exact ⟨_, rfl, Re.same (by decide), Fe.val (by decide) rfl rfl⟩
            · intro L W hL hk hC hw
              have f2 : vals 2 = .pointer (some ⟨g, 2 * n, none⟩) := Fe.get (hw ⟨2, .data⟩ (by simp) rfl) (by decide)
              clear hw
              have hb := hC (hL.not_yet hk 13 8 (by decide +kernel))
              have kc : W.cell? ⟨g, 2 * n, none⟩ = some (.slice (some ⟨gz, 0, none⟩) 128 cz) := ((BX2.out.later hb).cell (2 * n)).trans CZ.out
              clear hL hC hk hb
              refine step_plain rfl ?_
              go_simp
              first | exact ⟨Re.same (by decide), Fe.val (by decide) rfl rfl⟩ | exact ⟨_, rfl, Re.same (by decide), Fe.val (by decide) rfl rfl⟩
            · intro L W hL hk hC hw
              clear hw
              clear hL hC hk
              refine step_plain rfl ?_
              go_simp
              first | exact ⟨Re.same (by decide), Fe.val (by decide) rfl rfl⟩ | exact ⟨_, rfl, Re.same (by decide), Fe.val (by decide) rfl rfl⟩
            · intro L W hL hk hC hw
              have f4 : vals 4 = .pointer (some ⟨g, 2 * n, none⟩) := Fe.get (hw ⟨4, .data⟩ (by simp) rfl) (by decide)
              clear hw
              clear hL hC hk
              refine step_plain rfl ?_
              go_simp
              first | exact ⟨Re.same (by decide), Fe.val (by decide) rfl rfl⟩ | exact ⟨_, rfl, Re.same (by decide), Fe.val (by decide) rfl rfl⟩
            · intro L W hL hk hC hw
              have f5 : vals 5 = .pointer (some ⟨g, 2 * n, none⟩) := Fe.get (hw ⟨5, .data⟩ (by simp) rfl) (by decide)
              clear hw
              clear hL hC hk
              refine step_plain rfl ?_
              go_simp
              first | exact ⟨Re.same (by decide), Fe.val (by decide) rfl rfl⟩ | exact ⟨_, rfl, Re.same (by decide), Fe.val (by decide) rfl rfl⟩
            · intro L W hL hk hC hw
              have f6 : vals 6 = .pointer (some ⟨g, 2 * n + 1, none⟩) := Fe.get (hw ⟨6, .data⟩ (by simp) rfl) (by decide)
              clear hw
              have hb := hC (hL.not_yet hk 13 8 (by decide +kernel))
              have kc : W.cell? ⟨g, 2 * n + 1, none⟩ = some (.slice (some ⟨gv, 0, none⟩) V cv) := ((BX2.out.later hb).cell (2 * n + 1)).trans CV.out
              clear hL hC hk hb
              refine step_plain rfl ?_
              go_simp
              first | exact ⟨Re.same (by decide), Fe.val (by decide) rfl rfl⟩ | exact ⟨_, rfl, Re.same (by decide), Fe.val (by decide) rfl rfl⟩
            · intro L W hL hk hC hw
              clear hw
              clear hL hC hk
              refine step_plain rfl ?_
              go_simp
              first | exact ⟨Re.same (by decide), Fe.val (by decide) rfl rfl⟩ | exact ⟨_, rfl, Re.same (by decide), Fe.val (by decide) rfl rfl⟩
            · intro L W hL hk hC hw
              have f7 : vals 7 = .slice (some ⟨gv, 0, none⟩) V cv := Fe.get (hw ⟨7, .data⟩ (by simp) rfl) (by decide)
              have f8 : vals 8 = .int .i64 0 := Fe.get (hw ⟨8, .data⟩ (by simp) rfl) (by decide)
              clear hw
              have hb := hC (hL.not_yet hk 13 8 (by decide +kernel))
              have h9 : 0 < V := HKV.out
              clear hL hC hk hb
              refine step_plain rfl ?_
              go_simp
              first | exact ⟨Re.same (by decide), Fe.val (by decide) rfl rfl⟩ | exact ⟨_, rfl, Re.same (by decide), Fe.val (by decide) rfl rfl⟩
            · intro L W hL hk hC hw
              have f9 : vals 9 = .pointer (some ⟨gv, 0, none⟩) := Fe.get (hw ⟨9, .data⟩ (by simp) rfl) (by decide)
              clear hw
              have hb := hC (hL.not_yet hk 13 8 (by decide +kernel))
              have kc : W.cell? ⟨gv, 0, none⟩ = some (.slice (some ⟨gx, 0, none⟩) 128 cx) := by rw [(own_below OV2.out hb).cellAt 0 (by have := HKV.out; omega)]; exact EX.out
              clear hL hC hk hb
              refine step_plain rfl ?_
              go_simp
              first | exact ⟨Re.same (by decide), Fe.val (by decide) rfl rfl⟩ | exact ⟨_, rfl, Re.same (by decide), Fe.val (by decide) rfl rfl⟩
            · intro L W hL hk hC hw
              clear hw
              clear hL hC hk
              refine step_plain rfl ?_
              go_simp
              first | exact ⟨Re.same (by decide), Fe.val (by decide) rfl rfl⟩ | exact ⟨_, rfl, Re.same (by decide), Fe.val (by decide) rfl rfl⟩
            · intro L W hL hk hC hw
              have f10 : vals 10 = .slice (some ⟨gx, 0, none⟩) 128 cx := Fe.get (hw ⟨10, .data⟩ (by simp) rfl) (by decide)
              have f11 : vals 11 = .int .i64 (t : Int) := Fe.get (hw ⟨11, .data⟩ (by simp) rfl) (by decide)
              clear hw
              have hb := hC (hL.not_yet hk 13 8 (by decide +kernel))
              have h9 : t ≤ cx := by have := HCX.out; have := HT.out; omega
              have h9i : (t : Int) ≤ (cx : Int) := by omega
              clear hL hC hk hb
              refine step_plain rfl ?_
              go_simp
              first | exact ⟨Re.same (by decide), Fe.val (by decide) rfl rfl⟩ | exact ⟨_, rfl, Re.same (by decide), Fe.val (by decide) rfl rfl⟩
            · intro L W hL hk hC hw
              have f3 : vals 3 = .slice (some ⟨gz, 0, none⟩) 128 cz := Fe.get (hw ⟨3, .data⟩ (by simp) rfl) (by decide)
              have f12 : vals 12 = .slice (some ⟨gx, 0, none⟩) t cx := Fe.get (hw ⟨12, .data⟩ (by simp) rfl) (by decide)
              clear hw
              have hb := hC hk
              have rz := RowAt.sc RZ2.out (Sc.of_below hb)
              have rx := (IX2.out.below hb).more hb.size
              clear hL hC hk
              refine step_plain rfl ?_
              refine Cpy.wp_copy_row W _ _ _ _ rfl 5 Try.underlying48 (by kernel_rfl) 5 0 gz 128 cz zs HZL.out f3 rz W.heap.size ⟨gx, 0, none⟩ cx t (xs.take t) (by rw [List.length_take, HXL.out]; have := HT.out; omega) f12 (rx.take (by have := HT.out; omega)) HT.out ?_
              intro w9 r9 g9
              exact ⟨_, rfl, Re.last (Fr.grown (Fr.refl _ _) g9 (fun q e => .inl (Option.some.inj e).symm)), Fe.last ⟨Fr.grown (Fr.of_below hb) g9 (fun q e => .inl (Option.some.inj e).symm), r9⟩⟩
          · simp only [TL, Act.put, List.setIfInBounds_toArray, List.set_cons_succ, List.set_cons_zero]
            have hb4 := (BX2.out.fr hfin.1 (fun e => HGG.out e.symm)).set_ (2 * n + 1) (.slice none 0 0)
            have kv3 : W.cell? ⟨g, 2 * n + 1, none⟩ = some (.slice (some ⟨gv, 0, none⟩) V cv) := ((BX2.out.fr hfin.1 (fun e => HGG.out e.symm)).cell _).trans CV.out
            have fv3 := (BX2.out.fr hfin.1 (fun e => HGG.out e.symm)).frozen (2 * n + 1)
            have hf3 : Fr (fun x => x = g ∨ col x = fc i + 1 + n) w W := Fr.sub (Fr.sub (Fr.of_below HB1.out) HF2.out (fun x _ hx => .inl hx)) hfin.1 (fun x _ hx => by rw [hx]; exact .inr HGZ.out.2)
            have hf4 := Fr.setCell hf3 (p := ⟨g, 2 * n + 1, none⟩) (.inl (.inl rfl)) (.slice none 0 0)
            have hl4 : (xs.take t ++ zs.drop (xs.take t).length).length = 128 := by rw [List.length_append, List.length_drop, List.length_take, HXL.out, HZL.out]; omega
            have hr0 := hfin.2.own
            rw [hl4] at hr0
            have hz4 := own_set_far' hr0 (p := ⟨g, 2 * n + 1, none⟩) (fun hx => by injection hx with hx; exact HGG.out hx) (.slice none 0 0)
            have hby4 : Bytes (xs.take t ++ zs.drop (xs.take t).length) := Bytes.app (fun x hx => HXB.out x (List.mem_of_mem_take hx)) (fun x hx => HKP.out.2.2 x (List.mem_of_mem_drop hx))
            clear hr0 hf3 hfin
            clear hall
            go_wp2
            obtain ⟨w4, hw4⟩ : ∃ w4, W.setCell ⟨g, 2 * n + 1, none⟩ (.slice none 0 0) = w4 := ⟨_, rfl⟩
            rw [hw4] at hb4 hf4 hz4
            have hend := crash_end HH.out hi SP.out (w4 := w4) (hf4) (.slice (some ⟨gz, 0, none⟩) 128 cz) (xs.take t ++ zs.drop (xs.take t).length) hz4 (hl4) (hby4) (fun x hx => by injection hx with hx; rw [← hx]; exact HGZ.out) hb4
            have HE := Lib.hid hend
            have hsp : s.crash K (t : Int) = ⟨xs.take t ++ zs.drop (xs.take t).length, []⟩ := by
              have e1 : s.wait.length = V := by rw [HVL.out, SP1.out.sec.n]
              unfold Se.crash; rw [e1, HKE.out, if_pos HKV.out, HXS.out, HZS.out, show tp (t : Int) = t by unfold tp; have := HT.out; omega, List.length_take, HXL.out, Nat.min_eq_left HT.out]
            have HSP := Lib.hid hsp
            clear hsp
            clear hend hf4 hz4 hl4 hby4 hb4
            try rw [hw4]
            clear hw4
            go_end0
            rw [HSP.out]
            exact ⟨rfl, HE.out.1, HE.out.2⟩
        · skip
          have HT := Lib.hid (show 128 ≤ 128 by decide)
          go_wp2
          refine wp_region_end (by kernel_rfl) (by kernel_rfl) 13 (fun W W' => Fr (fun x => x = gz) W W') (fun W => Fr (fun x => x = gz) w2 W ∧ RowAt 5 W 0 gz (.slice (some ⟨gz, 0, none⟩) 128 cz) (xs.take 128 ++ zs.drop (xs.take 128).length)) [(fun v _ => v = .pointer (some ⟨g, 2 * n, none⟩)), (fun v _ => v = .pointer (some ⟨g, 2 * n, none⟩)), (fun v _ => v = .pointer (some ⟨g, 2 * n, none⟩)), (fun v _ => v = .slice (some ⟨gz, 0, none⟩) 128 cz), (fun v _ => v = .pointer (some ⟨g, 2 * n, none⟩)), (fun v _ => v = .pointer (some ⟨g, 2 * n, none⟩)), (fun v _ => v = .pointer (some ⟨g, 2 * n + 1, none⟩)), (fun v _ => v = .slice (some ⟨gv, 0, none⟩) V cv), (fun v _ => v = .int .i64 0), (fun v _ => v = .pointer (some ⟨gv, 0, none⟩)), (fun v _ => v = .slice (some ⟨gx, 0, none⟩) 128 cx), (fun v _ => v = .int .i64 128), (fun v _ => v = .slice (some ⟨gx, 0, none⟩) 128 cx), (fun v _ => v = undef)] (fun W W' hb h => ⟨h.1.below hb, h.2.sc (Sc.of_below hb)⟩) ?_ (fun vals => ?_) (fun vals W hfin hall => ?_) (by decide)
          · intro j v W W' hj hr h
            match j, hj, h with
            | 0, _, h => exact h
            | 1, _, h => exact h
            | 2, _, h => exact h
            | 3, _, h => exact h
            | 4, _, h => exact h
            | 5, _, h => exact h
            | 6, _, h => exact h
            | 7, _, h => exact h
            | 8, _, h => exact h
            | 9, _, h => exact h
            | 10, _, h => exact h
            | 11, _, h => exact h
            | 12, _, h => exact h
            | 13, hj, _ => exact absurd rfl hj
            | _ + 14, _, _ => trivial
          · simp only [ObL, Act.put, List.setIfInBounds_toArray, List.set_cons_succ, List.set_cons_zero]
            refine ⟨?_, ?_, ?_, ?_, ?_, ?_, ?_, ?_, ?_, ?_, ?_, ?_, ?_, ?_, trivial⟩
            · intro L W hL hk hC hw
              clear hw
              clear hL hC hk
              refine step_plain rfl ?_
              go_simp
              first | exact ⟨Re.same (by decide), Fe.val (by decide) rfl rfl⟩ | exact ⟨_, rfl, Re.same (by decide), Fe.val (by decide) rfl rfl⟩
            · intro L W hL hk hC hw
              have f0 : vals 0 = .pointer (some ⟨g, 2 * n, none⟩) := Fe.get (hw ⟨0, .data⟩ (by simp) rfl) (by decide)
              clear hw
              clear hL hC hk
              refine step_plain rfl ?_
              go_simp
              first | exact ⟨Re.same (by decide), Fe.val (by decide) rfl rfl⟩ | exact ⟨_, rfl, Re.same (by decide), Fe.val (by decide) rfl rfl⟩
            · intro L W hL hk hC hw
              have f1 : vals 1 = .pointer (some ⟨g, 2 * n, none⟩) := Fe.get (hw ⟨1, .data⟩ (by simp) rfl) (by decide)
              clear hw
              clear hL hC hk
              refine step_plain rfl ?_
              go_simp
              first | exact ⟨Re.same (by decide), Fe.val (by decide) rfl rfl⟩ | exact ⟨_, rfl, Re.same (by decide), Fe.val (by decide) rfl rfl⟩
            · intro L W hL hk hC hw
              have f2 : vals 2 = .pointer (some ⟨g, 2 * n, none⟩) := Fe.get (hw ⟨2, .data⟩ (by simp) rfl) (by decide)
              clear hw
              have hb := hC (hL.not_yet hk 13 8 (by decide +kernel))
              have kc : W.cell? ⟨g, 2 * n, none⟩ = some (.slice (some ⟨gz, 0, none⟩) 128 cz) := ((BX2.out.later hb).cell (2 * n)).trans CZ.out
              clear hL hC hk hb
              refine step_plain rfl ?_
              go_simp
              first | exact ⟨Re.same (by decide), Fe.val (by decide) rfl rfl⟩ | exact ⟨_, rfl, Re.same (by decide), Fe.val (by decide) rfl rfl⟩
            · intro L W hL hk hC hw
              clear hw
              clear hL hC hk
              refine step_plain rfl ?_
              go_simp
              first | exact ⟨Re.same (by decide), Fe.val (by decide) rfl rfl⟩ | exact ⟨_, rfl, Re.same (by decide), Fe.val (by decide) rfl rfl⟩
            · intro L W hL hk hC hw
              have f4 : vals 4 = .pointer (some ⟨g, 2 * n, none⟩) := Fe.get (hw ⟨4, .data⟩ (by simp) rfl) (by decide)
              clear hw
              clear hL hC hk
              refine step_plain rfl ?_
              go_simp
              first | exact ⟨Re.same (by decide), Fe.val (by decide) rfl rfl⟩ | exact ⟨_, rfl, Re.same (by decide), Fe.val (by decide) rfl rfl⟩
            · intro L W hL hk hC hw
              have f5 : vals 5 = .pointer (some ⟨g, 2 * n, none⟩) := Fe.get (hw ⟨5, .data⟩ (by simp) rfl) (by decide)
              clear hw
              clear hL hC hk
              refine step_plain rfl ?_
              go_simp
              first | exact ⟨Re.same (by decide), Fe.val (by decide) rfl rfl⟩ | exact ⟨_, rfl, Re.same (by decide), Fe.val (by decide) rfl rfl⟩
            · intro L W hL hk hC hw
              have f6 : vals 6 = .pointer (some ⟨g, 2 * n + 1, none⟩) := Fe.get (hw ⟨6, .data⟩ (by simp) rfl) (by decide)
              clear hw
              have hb := hC (hL.not_yet hk 13 8 (by decide +kernel))
              have kc : W.cell? ⟨g, 2 * n + 1, none⟩ = some (.slice (some ⟨gv, 0, none⟩) V cv) := ((BX2.out.later hb).cell (2 * n + 1)).trans CV.out
              clear hL hC hk hb
              refine step_plain rfl ?_
              go_simp
              first | exact ⟨Re.same (by decide), Fe.val (by decide) rfl rfl⟩ | exact ⟨_, rfl, Re.same (by decide), Fe.val (by decide) rfl rfl⟩
            · intro L W hL hk hC hw
              clear hw
              clear hL hC hk
              refine step_plain rfl ?_
              go_simp
              first | exact ⟨Re.same (by decide), Fe.val (by decide) rfl rfl⟩ | exact ⟨_, rfl, Re.same (by decide), Fe.val (by decide) rfl rfl⟩
            · intro L W hL hk hC hw
              have f7 : vals 7 = .slice (some ⟨gv, 0, none⟩) V cv := Fe.get (hw ⟨7, .data⟩ (by simp) rfl) (by decide)
              have f8 : vals 8 = .int .i64 0 := Fe.get (hw ⟨8, .data⟩ (by simp) rfl) (by decide)
              clear hw
              have hb := hC (hL.not_yet hk 13 8 (by decide +kernel))
              have h9 : 0 < V := HKV.out
              clear hL hC hk hb
              refine step_plain rfl ?_
              go_simp
              first | exact ⟨Re.same (by decide), Fe.val (by decide) rfl rfl⟩ | exact ⟨_, rfl, Re.same (by decide), Fe.val (by decide) rfl rfl⟩
            · intro L W hL hk hC hw
              have f9 : vals 9 = .pointer (some ⟨gv, 0, none⟩) := Fe.get (hw ⟨9, .data⟩ (by simp) rfl) (by decide)
              clear hw
              have hb := hC (hL.not_yet hk 13 8 (by decide +kernel))
              have kc : W.cell? ⟨gv, 0, none⟩ = some (.slice (some ⟨gx, 0, none⟩) 128 cx) := by rw [(own_below OV2.out hb).cellAt 0 (by have := HKV.out; omega)]; exact EX.out
              clear hL hC hk hb
              refine step_plain rfl ?_
              go_simp
              first | exact ⟨Re.same (by decide), Fe.val (by decide) rfl rfl⟩ | exact ⟨_, rfl, Re.same (by decide), Fe.val (by decide) rfl rfl⟩
            · intro L W hL hk hC hw
              clear hw
              clear hL hC hk
              refine step_plain rfl ?_
              go_simp
              first | exact ⟨Re.same (by decide), Fe.val (by decide) rfl rfl⟩ | exact ⟨_, rfl, Re.same (by decide), Fe.val (by decide) rfl rfl⟩
            · intro L W hL hk hC hw
              have f10 : vals 10 = .slice (some ⟨gx, 0, none⟩) 128 cx := Fe.get (hw ⟨10, .data⟩ (by simp) rfl) (by decide)
              have f11 : vals 11 = .int .i64 128 := Fe.get (hw ⟨11, .data⟩ (by simp) rfl) (by decide)
              clear hw
              have hb := hC (hL.not_yet hk 13 8 (by decide +kernel))
              have h9 : 128 ≤ cx := by have := HCX.out; have := HT.out; omega
              have h9i : 128 ≤ (cx : Int) := by omega
              clear hL hC hk hb
              refine step_plain rfl ?_
              go_simp
              first | exact ⟨Re.same (by decide), Fe.val (by decide) rfl rfl⟩ | exact ⟨_, rfl, Re.same (by decide), Fe.val (by decide) rfl rfl⟩
            · intro L W hL hk hC hw
              have f3 : vals 3 = .slice (some ⟨gz, 0, none⟩) 128 cz := Fe.get (hw ⟨3, .data⟩ (by simp) rfl) (by decide)
              have f12 : vals 12 = .slice (some ⟨gx, 0, none⟩) 128 cx := Fe.get (hw ⟨12, .data⟩ (by simp) rfl) (by decide)
              clear hw
              have hb := hC hk
              have rz := RowAt.sc RZ2.out (Sc.of_below hb)
              have rx := (IX2.out.below hb).more hb.size
              clear hL hC hk
              refine step_plain rfl ?_
              refine Cpy.wp_copy_row W _ _ _ _ rfl 5 Try.underlying48 (by kernel_rfl) 5 0 gz 128 cz zs HZL.out f3 rz W.heap.size ⟨gx, 0, none⟩ cx 128 (xs.take 128) (by rw [List.length_take, HXL.out]; have := HT.out; omega) f12 (rx.take (by have := HT.out; omega)) HT.out ?_
              intro w9 r9 g9
              exact ⟨_, rfl, Re.last (Fr.grown (Fr.refl _ _) g9 (fun q e => .inl (Option.some.inj e).symm)), Fe.last ⟨Fr.grown (Fr.of_below hb) g9 (fun q e => .inl (Option.some.inj e).symm), r9⟩⟩
          · simp only [TL, Act.put, List.setIfInBounds_toArray, List.set_cons_succ, List.set_cons_zero]
            have hb4 := (BX2.out.fr hfin.1 (fun e => HGG.out e.symm)).set_ (2 * n + 1) (.slice none 0 0)
            have kv3 : W.cell? ⟨g, 2 * n + 1, none⟩ = some (.slice (some ⟨gv, 0, none⟩) V cv) := ((BX2.out.fr hfin.1 (fun e => HGG.out e.symm)).cell _).trans CV.out
            have fv3 := (BX2.out.fr hfin.1 (fun e => HGG.out e.symm)).frozen (2 * n + 1)
            have hf3 : Fr (fun x => x = g ∨ col x = fc i + 1 + n) w W := Fr.sub (Fr.sub (Fr.of_below HB1.out) HF2.out (fun x _ hx => .inl hx)) hfin.1 (fun x _ hx => by rw [hx]; exact .inr HGZ.out.2)
            have hf4 := Fr.setCell hf3 (p := ⟨g, 2 * n + 1, none⟩) (.inl (.inl rfl)) (.slice none 0 0)
            have hl4 : (xs.take 128 ++ zs.drop (xs.take 128).length).length = 128 := by rw [List.length_append, List.length_drop, List.length_take, HXL.out, HZL.out]; omega
            have hr0 := hfin.2.own
            rw [hl4] at hr0
            have hz4 := own_set_far' hr0 (p := ⟨g, 2 * n + 1, none⟩) (fun hx => by injection hx with hx; exact HGG.out hx) (.slice none 0 0)
            have hby4 : Bytes (xs.take 128 ++ zs.drop (xs.take 128).length) := Bytes.app (fun x hx => HXB.out x (List.mem_of_mem_take hx)) (fun x hx => HKP.out.2.2 x (List.mem_of_mem_drop hx))
            clear hr0 hf3 hfin
            clear hall
            go_wp2
            obtain ⟨w4, hw4⟩ : ∃ w4, W.setCell ⟨g, 2 * n + 1, none⟩ (.slice none 0 0) = w4 := ⟨_, rfl⟩
            rw [hw4] at hb4 hf4 hz4
            have hend := crash_end HH.out hi SP.out (w4 := w4) (hf4) (.slice (some ⟨gz, 0, none⟩) 128 cz) (xs.take 128 ++ zs.drop (xs.take 128).length) hz4 (hl4) (hby4) (fun x hx => by injection hx with hx; rw [← hx]; exact HGZ.out) hb4
            have HE := Lib.hid hend
            have hsp : s.crash K T = ⟨xs.take 128 ++ zs.drop (xs.take 128).length, []⟩ := by
              have e1 : s.wait.length = V := by rw [HVL.out, SP1.out.sec.n]
              unfold Se.crash; rw [e1, HKE.out, if_pos HKV.out, HXS.out, HZS.out, show tp T = 128 by unfold tp; omega, List.length_take, HXL.out, Nat.min_eq_left HT.out]
            have HSP := Lib.hid hsp
            clear hsp
            clear hend hf4 hz4 hl4 hby4 hb4
            try rw [hw4]
            clear hw4
            go_end0
            rw [HSP.out]
            exact ⟨rfl, HE.out.1, HE.out.2⟩
    · skip
      have HKVe := Lib.hid hlt
      have dkv : decide ((0) < (V : Int)) = false := by simp; omega
      have dkvn : decide (0 < V) = false := by simp; omega
      clear hlt
      go_wp2
      have hb4 := BX2.out.set_ (2 * n + 1) (.slice none 0 0)
      have hf3 : Fr (fun x => x = g ∨ col x = fc i + 1 + n) w w2 := Fr.sub (Fr.of_below HB1.out) HF2.out (fun x _ hx => .inl hx)
      have hf4 := Fr.setCell hf3 (p := ⟨g, 2 * n + 1, none⟩) (.inl (.inl rfl)) (.slice none 0 0)
      have hz4 := own_set_far' (own_frS HKP.out.1.1 HF2.out (fun x hx hs => by injection hx with hx; exact HGG.out (hx.trans hs))) (p := ⟨g, 2 * n + 1, none⟩) (fun hx => by injection hx with hx; exact HGG.out hx) (.slice none 0 0)
      obtain ⟨w4, hw4⟩ : ∃ w4, w2.setCell ⟨g, 2 * n + 1, none⟩ (.slice none 0 0) = w4 := ⟨_, rfl⟩
      rw [hw4] at hb4 hf4 hz4
      have hl4 := HKP.out.2.1
      have hby4 := HKP.out.2.2
      clear hf3
      have hend := crash_end HH.out hi SP.out (w4 := w4) (hf4) (.slice (some ⟨gz, 0, none⟩) 128 cz) (zs) hz4 (hl4) (hby4) (fun x hx => by injection hx with hx; rw [← hx]; exact HGZ.out) hb4
      have HE := Lib.hid hend
      have hsp : s.crash K T = ⟨zs, []⟩ := by
        have e1 : s.wait.length = V := by rw [HVL.out, SP1.out.sec.n]
        unfold Se.crash; rw [e1, HKE.out, if_neg (by rw [HKVe.out]; exact Nat.lt_irrefl _), HZS.out]
      have HSP := Lib.hid hsp
      clear hsp
      clear hend hf4 hz4 hl4 hby4 hb4
      try rw [hw4]
      clear hw4
      go_end0
      rw [HSP.out]
      exact ⟨rfl, HE.out.1, HE.out.2⟩
  · by_cases hK1 : K ≤ (V : Int)
    · obtain ⟨k, hk⟩ : ∃ k : Nat, K = k := ⟨K.toNat, by omega⟩
      subst hk
      have hk0 : (0 : Int) ≤ (k : Int) := by omega
      go_quiet (fail)
      obtain ⟨w1, hw1⟩ : ∃ w1, (w.alloc (.cells #[.int .u8 F, .int .i64 se, .int .i64 k, .int .i64 T] 81)).drewN nq = w1 := ⟨_, rfl⟩
      have HB1 := Lib.hid (show Below w.heap.size w w1 by rw [← hw1]; exact below_drewN (new_ (Below.refl _ _) _) nq)
      have SP1 := Lib.hid (SP.out.later HB1.out)
      have BT1 := Lib.hid (show Box w1 w.heap.size #[.int .u8 F, .int .i64 se, .int .i64 k, .int .i64 T] 81 by rw [← hw1]; exact BF.out.drewN nq)
      try rw [hw1]
      clear hw1 kf kg BF BX1
      have HKV0 := Lib.hid (show k ≤ V by omega)
      have hkp : kp (k : Int) V = k := by unfold kp; have := HKV0.out; omega
      have HKE := Lib.hid hkp
      clear hkp hK0 hK1 hk0
      have KP := Lib.hid (keep_at ((k : Int)) (k) rfl w1 g (2 * n) C 78 p.1 p.2.1 p.2.2 SP1.out.box SP1.out.c0 SP1.out.c1 SP1.out.sec.wait.1 (by have := HVL.out; have := HKV0.out; omega) (by have := HVL.out; have := HVB.out; omega) SP1.out.sec.form_w)
      have hkeep := SP1.out.sec.keep (k) (by have := HVL.out; have := HKV0.out; omega)
      obtain ⟨z, hz⟩ : ∃ z, z = (if k = 0 then p.1 else p.2.2.getD (k - 1) p.1) := ⟨_, rfl⟩
      rw [← hz] at KP hkeep
      obtain ⟨gz, cz, ez, _⟩ := own_g hkeep.1.1 (by decide)
      subst ez
      obtain ⟨zs, hzs⟩ : ∃ zs, zs = s.keep (k) := ⟨_, rfl⟩
      rw [← hzs] at hkeep
      have HKP := Lib.hid hkeep
      have HZS := Lib.hid hzs
      clear hz hkeep hzs
      go_wp2_with fail
      (with_reducible refine KP.out.mono ?_)
      rintro e w2 ⟨rfl, hb2, hf2⟩
      have BX2 := Lib.hid hb2
      have HF2 := Lib.hid hf2
      have CV := Lib.hid (show (C.setIfInBounds (2 * n) (.slice (some ⟨gz, 0, none⟩) 128 cz))[2 * n + 1]? = some (.slice Av V cv) by rw [Array.getElem?_setIfInBounds_ne (by omega), ← EV.out]; exact SP1.out.c1)
      have CZ := Lib.hid (show (C.setIfInBounds (2 * n) (.slice (some ⟨gz, 0, none⟩) 128 cz))[2 * n]? = some (.slice (some ⟨gz, 0, none⟩) 128 cz) by
        have := (Array.getElem?_eq_some_iff.1 SP1.out.c0).1
        rw [Array.getElem?_setIfInBounds_self_of_lt this])
      have kv2 : w2.cell? ⟨g, 2 * n + 1, none⟩ = some (.slice Av V cv) := (BX2.out.cell _).trans CV.out
      have fv2 := BX2.out.frozen (2 * n + 1)
      have FT2 := Lib.hid (BT1.out.fr hf2 (by have := SP1.out.box.lt; have := HGW.out; omega))
      have kt := FT2.out.cell
      have HGZ := Lib.hid (show gz < w.heap.size ∧ col gz = fc i + 1 + n by
        have h9 := HKP.out.1.2 gz rfl
        exact ⟨HOLD.out gz (by rw [h9]; unfold fc; omega), h9⟩)
      have HGG := Lib.hid (show gz ≠ g from fun e => by have h1 := HGZ.out.2; rw [e, SP1.out.hcol] at h1; omega)
      clear hb2 hf2
      have hlt : k < V ∨ k = V := by have := HKV0.out; omega
      rcases hlt with hlt | hlt
      · skip
        have dkv : decide (((k : Int)) < (V : Int)) = true := by simp; omega
        have dkvn : decide (k < V) = true := by simp; omega
        have HKV := Lib.hid hlt
        have hlv : k < p.2.2.length := by rw [← HVL.out]; exact hlt
        have hlw : k < s.wait.length := by rw [← SP1.out.sec.n]; exact hlv
        obtain ⟨gv, cv', eva, _⟩ : ∃ gv cv', (Value.slice Av V cv) = .slice (some ⟨gv, 0, none⟩) V cv' ∧ V ≤ cv' := by
          have h9 := SP1.out.sec.wait.1
          rw [EV.out, ← HVL.out] at h9
          exact own_g h9 (by omega)
        injection eva with eva1 eva2 eva3
        subst eva1 eva3
        have OV1 := SP1.out.sec.wait.1
        rw [EV.out, ← HVL.out] at OV1
        have OV2 := Lib.hid (own_frS OV1 HF2.out (fun x hx hs => by
          have h8 := SP1.out.sec.wait.2 x (by rw [EV.out]; exact hx)
          rw [hs, SP1.out.hcol] at h8; omega))
        have hrow := SP1.out.sec.row (k) _ _ (List.getElem?_eq_getElem hlv) (List.getElem?_eq_getElem hlw)
        have hrl := SP1.out.sec.lens _ (List.getElem_mem hlw)
        have hrb := SP1.out.sec.byts _ (List.getElem_mem hlw)
        obtain ⟨xs, hxs⟩ : ∃ xs, xs = s.wait[k] := ⟨_, rfl⟩
        rw [← hxs] at hrow hrl hrb
        obtain ⟨gx, cx, ex, hcx⟩ := own_g hrow.1 (by decide)
        have HCX := Lib.hid hcx
        clear hcx
        have EX := Lib.hid (show p.2.2[k]? = some (.slice (some ⟨gx, 0, none⟩) 128 cx) by rw [List.getElem?_eq_getElem hlv, ex])
        rw [ex] at hrow
        have HXL := Lib.hid hrl
        have HXB := Lib.hid hrb
        have HXS := Lib.hid (show s.wait.getD (k) [] = xs by rw [List.getD_eq_getElem?_getD, List.getElem?_eq_getElem hlw, hxs]; rfl)
        have IX2 := Lib.hid (show IR w2 w2.heap.size .u8 (.slice (some ⟨gx, 0, none⟩) 128 cx) xs from own_ir' (own_frS hrow.1 HF2.out (fun x hx hs => by
          have h8 := hrow.2 x hx
          rw [hs, SP1.out.hcol] at h8; omega)) hrl)
        have RZ2 := Lib.hid (show RowAt 5 w2 0 gz (.slice (some ⟨gz, 0, none⟩) 128 cz) zs from ⟨⟨cz, by rw [HKP.out.2.1]⟩, by rw [HKP.out.2.1]; exact own_frS HKP.out.1.1 HF2.out (fun x hx hs => by injection hx with hx; exact HGG.out (hx.trans hs))⟩)
        have HZL := Lib.hid HKP.out.2.1
        clear hrow hrl hrb ex OV1 hxs hlt hlv hlw
        by_cases hT0 : T < 0
        · skip
          have HT := Lib.hid (show 0 ≤ 128 by decide)
          go_wp2
          refine wp_region_end (by kernel_rfl) (by kernel_rfl) 13 (fun W W' => Fr (fun x => x = gz) W W') (fun W => Fr (fun x => x = gz) w2 W ∧ RowAt 5 W 0 gz (.slice (some ⟨gz, 0, none⟩) 128 cz) (xs.take 0 ++ zs.drop (xs.take 0).length)) [(fun v _ => v = .pointer (some ⟨g, 2 * n, none⟩)), (fun v _ => v = .pointer (some ⟨g, 2 * n, none⟩)), (fun v _ => v = .pointer (some ⟨g, 2 * n, none⟩)), (fun v _ => v = .slice (some ⟨gz, 0, none⟩) 128 cz), (fun v _ => v = .pointer (some ⟨g, 2 * n, none⟩)), (fun v _ => v = .pointer (some ⟨g, 2 * n, none⟩)), (fun v _ => v = .pointer (some ⟨g, 2 * n + 1, none⟩)), (fun v _ => v = .slice (some ⟨gv, 0, none⟩) V cv), (fun v _ => v = .int .i64 (k : Int)), (fun v _ => v = .pointer (some ⟨gv, k, none⟩)), (fun v _ => v = .slice (some ⟨gx, 0, none⟩) 128 cx), (fun v _ => v = .int .i64 0), (fun v _ => v = .slice (some ⟨gx, 0, none⟩) 0 cx), (fun v _ => v = undef)] (fun W W' hb h => ⟨h.1.below hb, h.2.sc (Sc.of_below hb)⟩) ?_ (fun vals => ?_) (fun vals W hfin hall => ?_) (by decide)
          · intro j v W W' hj hr h
            match j, hj, h with
            | 0, _, h => exact h
            | 1, _, h => exact h
            | 2, _, h => exact h
            | 3, _, h => exact h
            | 4, _, h => exact h
            | 5, _, h => exact h
            | 6, _, h => exact h
            | 7, _, h => exact h
            | 8, _, h => exact h
            | 9, _, h => exact h
            | 10, _, h => exact h
            | 11, _, h => exact h
            | 12, _, h => exact h
            | 13, hj, _ => exact absurd rfl hj
            | _ + 14, _, _ => trivial
          · simp only [ObL, Act.put, List.setIfInBounds_toArray, List.set_cons_succ, List.set_cons_zero]
            refine ⟨?_, ?_, ?_, ?_, ?_, ?_, ?_, ?_, ?_, ?_, ?_, ?_, ?_, ?_, trivial⟩
            · intro L W hL hk hC hw
              clear hw
              clear hL hC hk
              refine step_plain rfl ?_
              go_simp
              first | exact ⟨Re.same (by decide), Fe.val (by decide) rfl rfl⟩ | exact ⟨_, rfl, Re.same (by decide), Fe.val (by decide) rfl rfl⟩
            · intro L W hL hk hC hw
              have f0 : vals 0 = .pointer (some ⟨g, 2 * n, none⟩) := Fe.get (hw ⟨0, .data⟩ (by simp) rfl) (by decide)
              clear hw
              clear hL hC hk
              refine step_plain rfl ?_
              go_simp
              first | exact ⟨Re.same (by decide), Fe.val (by decide) rfl rfl⟩ | exact ⟨_, rfl, Re.same (by decide), Fe.val (by decide) rfl rfl⟩
            · intro L W hL hk hC hw
              have f1 : vals 1 = .pointer (some ⟨g, 2 * n, none⟩) := Fe.get (hw ⟨1, .data⟩ (by simp) rfl) (by decide)
              clear hw
              clear hL hC hk
              refine step_plain rfl ?_
              go_simp
              first | exact ⟨Re.same (by decide), Fe.val (by decide) rfl rfl⟩ | exact ⟨_, rfl, Re.same (by decide), Fe.val (by decide) rfl rfl⟩
            · intro L W hL hk hC hw
              have f2 : vals 2 = .pointer (some ⟨g, 2 * n, none⟩) := Fe.get (hw ⟨2, .data⟩ (by simp) rfl) (by decide)
              clear hw
              have hb := hC (hL.not_yet hk 13 8 (by decide +kernel))
              have kc : W.cell? ⟨g, 2 * n, none⟩ = some (.slice (some ⟨gz, 0, none⟩) 128 cz) := ((BX2.out.later hb).cell (2 * n)).trans CZ.out
              clear hL hC hk hb
              refine step_plain rfl ?_
              go_simp
              first | exact ⟨Re.same (by decide), Fe.val (by decide) rfl rfl⟩ | exact ⟨_, rfl, Re.same (by decide), Fe.val (by decide) rfl rfl⟩
            · intro L W hL hk hC hw
              clear hw
              clear hL hC hk
              refine step_plain rfl ?_
              go_simp
              first | exact ⟨Re.same (by decide), Fe.val (by decide) rfl rfl⟩ | exact ⟨_, rfl, Re.same (by decide), Fe.val (by decide) rfl rfl⟩
            · intro L W hL hk hC hw
              have f4 : vals 4 = .pointer (some ⟨g, 2 * n, none⟩) := Fe.get (hw ⟨4, .data⟩ (by simp) rfl) (by decide)
              clear hw
              clear hL hC hk
              refine step_plain rfl ?_
              go_simp
              first | exact ⟨Re.same (by decide), Fe.val (by decide) rfl rfl⟩ | exact ⟨_, rfl, Re.same (by decide), Fe.val (by decide) rfl rfl⟩
            · intro L W hL hk hC hw
              have f5 : vals 5 = .pointer (some ⟨g, 2 * n, none⟩) := Fe.get (hw ⟨5, .data⟩ (by simp) rfl) (by decide)
              clear hw
              clear hL hC hk
              refine step_plain rfl ?_
              go_simp
              first | exact ⟨Re.same (by decide), Fe.val (by decide) rfl rfl⟩ | exact ⟨_, rfl, Re.same (by decide), Fe.val (by decide) rfl rfl⟩
            · intro L W hL hk hC hw
              have f6 : vals 6 = .pointer (some ⟨g, 2 * n + 1, none⟩) := Fe.get (hw ⟨6, .data⟩ (by simp) rfl) (by decide)
              clear hw
              have hb := hC (hL.not_yet hk 13 8 (by decide +kernel))
              have kc : W.cell? ⟨g, 2 * n + 1, none⟩ = some (.slice (some ⟨gv, 0, none⟩) V cv) := ((BX2.out.later hb).cell (2 * n + 1)).trans CV.out
              clear hL hC hk hb
              refine step_plain rfl ?_
              go_simp
              first | exact ⟨Re.same (by decide), Fe.val (by decide) rfl rfl⟩ | exact ⟨_, rfl, Re.same (by decide), Fe.val (by decide) rfl rfl⟩
            · intro L W hL hk hC hw
              clear hw
              clear hL hC hk
              refine step_plain rfl ?_
              go_simp
              first | exact ⟨Re.same (by decide), Fe.val (by decide) rfl rfl⟩ | exact ⟨_, rfl, Re.same (by decide), Fe.val (by decide) rfl rfl⟩
            · intro L W hL hk hC hw
              have f7 : vals 7 = .slice (some ⟨gv, 0, none⟩) V cv := Fe.get (hw ⟨7, .data⟩ (by simp) rfl) (by decide)
              have f8 : vals 8 = .int .i64 (k : Int) := Fe.get (hw ⟨8, .data⟩ (by simp) rfl) (by decide)
              clear hw
              have hb := hC (hL.not_yet hk 13 8 (by decide +kernel))
              have h9 : k < V := HKV.out
              clear hL hC hk hb
              refine step_plain rfl ?_
              go_simp
              first | exact ⟨Re.same (by decide), Fe.val (by decide) rfl rfl⟩ | exact ⟨_, rfl, Re.same (by decide), Fe.val (by decide) rfl rfl⟩
            · intro L W hL hk hC hw
              have f9 : vals 9 = .pointer (some ⟨gv, k, none⟩) := Fe.get (hw ⟨9, .data⟩ (by simp) rfl) (by decide)
              clear hw
              have hb := hC (hL.not_yet hk 13 8 (by decide +kernel))
              have kc : W.cell? ⟨gv, k, none⟩ = some (.slice (some ⟨gx, 0, none⟩) 128 cx) := by rw [(own_below OV2.out hb).cellAt k (by have := HKV.out; omega)]; exact EX.out
              clear hL hC hk hb
              refine step_plain rfl ?_
              go_simp
              first | exact ⟨Re.same (by decide), Fe.val (by decide) rfl rfl⟩ | exact ⟨_, rfl, Re.same (by decide), Fe.val (by decide) rfl rfl⟩
            · intro L W hL hk hC hw
              clear hw
              clear hL hC hk
              refine step_plain rfl ?_
              go_simp
              first | exact ⟨Re.same (by decide), Fe.val (by decide) rfl rfl⟩ | exact ⟨_, rfl, Re.same (by decide), Fe.val (by decide) rfl rfl⟩
            · intro L W hL hk hC hw
              have f10 : vals 10 = .slice (some ⟨gx, 0, none⟩) 128 cx := Fe.get (hw ⟨10, .data⟩ (by simp) rfl) (by decide)
              have f11 : vals 11 = .int .i64 0 := Fe.get (hw ⟨11, .data⟩ (by simp) rfl) (by decide)
              clear hw
              have hb := hC (hL.not_yet hk 13 8 (by decide +kernel))
              have h9 : 0 ≤ cx := by have := HCX.out; have := HT.out; omega
              have h9i : 0 ≤ (cx : Int) := by omega
              clear hL hC hk hb
              refine step_plain rfl ?_
              go_simp
              first | exact ⟨Re.same (by decide), Fe.val (by decide) rfl rfl⟩ | exact ⟨_, rfl, Re.same (by decide), Fe.val (by decide) rfl rfl⟩
            · intro L W hL hk hC hw
              have f3 : vals 3 = .slice (some ⟨gz, 0, none⟩) 128 cz := Fe.get (hw ⟨3, .data⟩ (by simp) rfl) (by decide)
              have f12 : vals 12 = .slice (some ⟨gx, 0, none⟩) 0 cx := Fe.get (hw ⟨12, .data⟩ (by simp) rfl) (by decide)
              clear hw
              have hb := hC hk
              have rz := RowAt.sc RZ2.out (Sc.of_below hb)
              have rx := (IX2.out.below hb).more hb.size
              clear hL hC hk
              refine step_plain rfl ?_
              refine Cpy.wp_copy_row W _ _ _ _ rfl 5 Try.underlying48 (by kernel_rfl) 5 0 gz 128 cz zs HZL.out f3 rz W.heap.size ⟨gx, 0, none⟩ cx 0 (xs.take 0) (by rw [List.length_take, HXL.out]; have := HT.out; omega) f12 (rx.take (by have := HT.out; omega)) HT.out ?_
              intro w9 r9 g9
              exact ⟨_, rfl, Re.last (Fr.grown (Fr.refl _ _) g9 (fun q e => .inl (Option.some.inj e).symm)), Fe.last ⟨Fr.grown (Fr.of_below hb) g9 (fun q e => .inl (Option.some.inj e).symm), r9⟩⟩
          · simp only [TL, Act.put, List.setIfInBounds_toArray, List.set_cons_succ, List.set_cons_zero]
            have hb4 := (BX2.out.fr hfin.1 (fun e => HGG.out e.symm)).set_ (2 * n + 1) (.slice none 0 0)
            have kv3 : W.cell? ⟨g, 2 * n + 1, none⟩ = some (.slice (some ⟨gv, 0, none⟩) V cv) := ((BX2.out.fr hfin.1 (fun e => HGG.out e.symm)).cell _).trans CV.out
            have fv3 := (BX2.out.fr hfin.1 (fun e => HGG.out e.symm)).frozen (2 * n + 1)
            have hf3 : Fr (fun x => x = g ∨ col x = fc i + 1 + n) w W := Fr.sub (Fr.sub (Fr.of_below HB1.out) HF2.out (fun x _ hx => .inl hx)) hfin.1 (fun x _ hx => by rw [hx]; exact .inr HGZ.out.2)
            have hf4 := Fr.setCell hf3 (p := ⟨g, 2 * n + 1, none⟩) (.inl (.inl rfl)) (.slice none 0 0)
            have hl4 : (xs.take 0 ++ zs.drop (xs.take 0).length).length = 128 := by rw [List.length_append, List.length_drop, List.length_take, HXL.out, HZL.out]; omega
            have hr0 := hfin.2.own
            rw [hl4] at hr0
            have hz4 := own_set_far' hr0 (p := ⟨g, 2 * n + 1, none⟩) (fun hx => by injection hx with hx; exact HGG.out hx) (.slice none 0 0)
            have hby4 : Bytes (xs.take 0 ++ zs.drop (xs.take 0).length) := Bytes.app (fun x hx => HXB.out x (List.mem_of_mem_take hx)) (fun x hx => HKP.out.2.2 x (List.mem_of_mem_drop hx))
            clear hr0 hf3 hfin
            clear hall
            go_wp2
            obtain ⟨w4, hw4⟩ : ∃ w4, W.setCell ⟨g, 2 * n + 1, none⟩ (.slice none 0 0) = w4 := ⟨_, rfl⟩
            rw [hw4] at hb4 hf4 hz4
            have hend := crash_end HH.out hi SP.out (w4 := w4) (hf4) (.slice (some ⟨gz, 0, none⟩) 128 cz) (xs.take 0 ++ zs.drop (xs.take 0).length) hz4 (hl4) (hby4) (fun x hx => by injection hx with hx; rw [← hx]; exact HGZ.out) hb4
            have HE := Lib.hid hend
            have hsp : s.crash (k : Int) T = ⟨xs.take 0 ++ zs.drop (xs.take 0).length, []⟩ := by
              have e1 : s.wait.length = V := by rw [HVL.out, SP1.out.sec.n]
              unfold Se.crash; rw [e1, HKE.out, if_pos HKV.out, HXS.out, HZS.out, show tp T = 0 by unfold tp; omega, List.length_take, HXL.out, Nat.min_eq_left HT.out]
            have HSP := Lib.hid hsp
            clear hsp
            clear hend hf4 hz4 hl4 hby4 hb4
            try rw [hw4]
            clear hw4
            go_end0
            rw [HSP.out]
            exact ⟨rfl, HE.out.1, HE.out.2⟩
        · by_cases hT1 : T ≤ 128
          · skip
            obtain ⟨t, ht⟩ : ∃ t : Nat, T = t := ⟨T.toNat, by omega⟩
            subst ht
            have HT := Lib.hid (show t ≤ 128 by omega)
            have hti : (t : Int) ≤ 128 := by omega
            go_wp2
            refine wp_region_end (by kernel_rfl) (by kernel_rfl) 13 (fun W W' => Fr (fun x => x = gz) W W') (fun W => Fr (fun x => x = gz) w2 W ∧ RowAt 5 W 0 gz (.slice (some ⟨gz, 0, none⟩) 128 cz) (xs.take t ++ zs.drop (xs.take t).length)) [(fun v _ => v = .pointer (some ⟨g, 2 * n, none⟩)), (fun v _ => v = .pointer (some ⟨g, 2 * n, none⟩)), (fun v _ => v = .pointer (some ⟨g, 2 * n, none⟩)), (fun v _ => v = .slice (some ⟨gz, 0, none⟩) 128 cz), (fun v _ => v = .pointer (some ⟨g, 2 * n, none⟩)), (fun v _ => v = .pointer (some ⟨g, 2 * n, none⟩)), (fun v _ => v = .pointer (some ⟨g, 2 * n + 1, none⟩)), (fun v _ => v = .slice (some ⟨gv, 0, none⟩) V cv), (fun v _ => v = .int .i64 (k : Int)), (fun v _ => v = .pointer (some ⟨gv, k, none⟩)), (fun v _ => v = .slice (some ⟨gx, 0, none⟩) 128 cx), (fun v _ => v = .int .i64 (t : Int)), (fun v _ => v = .slice (some ⟨gx, 0, none⟩) t cx), (fun v _ => v = undef)] (fun W W' hb h => ⟨h.1.below hb, h.2.sc (Sc.of_below hb)⟩) ?_ (fun vals => ?_) (fun vals W hfin hall => ?_) (by decide)
            · intro j v W W' hj hr h
              match j, hj, h with
              | 0, _, h => exact h
              | 1, _, h => exact h
              | 2, _, h => exact h
              | 3, _, h => exact h
              | 4, _, h => exact h
              | 5, _, h => exact h
              | 6, _, h => exact h
              | 7, _, h => exact h
              | 8, _, h => exact h
              | 9, _, h => exact h
              | 10, _, h => exact h
              | 11, _, h => exact h
              | 12, _, h => exact h
              | 13, hj, _ => exact absurd rfl hj
              | _ + 14, _, _ => trivial
            · simp only [ObL, Act.put, List.setIfInBounds_toArray, List.set_cons_succ, List.set_cons_zero]
              refine ⟨?_, ?_, ?_, ?_, ?_, ?_, ?_, ?_, ?_, ?_, ?_, ?_, ?_, ?_, trivial⟩
              · intro L W hL hk hC hw
                clear hw
                clear hL hC hk
                refine step_plain rfl ?_
                go_simp
                first | exact ⟨Re.same (by decide), Fe.val (by decide) rfl rfl⟩ | exact ⟨_, rfl, Re.same (by decide), Fe.val (by decide) rfl rfl⟩
              · intro L W hL hk hC hw
                have f0 : vals 0 = .pointer (some ⟨g, 2 * n, none⟩) := Fe.get (hw ⟨0, .data⟩ (by simp) rfl) (by decide)
                clear hw
                clear hL hC hk
                refine step_plain rfl ?_
                go_simp
                first | exact ⟨Re.same (by decide), Fe.val (by decide) rfl rfl⟩ | exact ⟨_, rfl, Re.same (by decide), Fe.val (by decide) rfl rfl⟩
              · intro L W hL hk hC hw
                have f1 : vals 1 = .pointer (some ⟨g, 2 * n, none⟩) := Fe.get (hw ⟨1, .data⟩ (by simp) rfl) (by decide)
                clear hw
                clear hL hC hk
                refine step_plain rfl ?_
                go_simp
                first | exact ⟨Re.same (by decide), Fe.val (by decide) rfl rfl⟩ | exact ⟨_, rfl, Re.same (by decide), Fe.val (by decide) rfl rfl⟩
              · intro L W hL hk hC hw
                have f2 : vals 2 = .pointer (some ⟨g, 2 * n, none⟩) := Fe.get (hw ⟨2, .data⟩ (by simp) rfl) (by decide)
                clear hw
                have hb := hC (hL.not_yet hk 13 8 (by decide +kernel))
                have kc : W.cell? ⟨g, 2 * n, none⟩ = some (.slice (some ⟨gz, 0, none⟩) 128 cz) := ((BX2.out.later hb).cell (2 * n)).trans CZ.out
                clear hL hC hk hb
                refine step_plain rfl ?_
                go_simp
                first | exact ⟨Re.same (by decide), Fe.val (by decide) rfl rfl⟩ | exact ⟨_, rfl, Re.same (by decide), Fe.val (by decide) rfl rfl⟩
              · intro L W hL hk hC hw
                clear hw
                clear hL hC hk
                refine step_plain rfl ?_
                go_simp
                first | exact ⟨Re.same (by decide), Fe.val (by decide) rfl rfl⟩ | exact ⟨_, rfl, Re.same (by decide), Fe.val (by decide) rfl rfl⟩
              · intro L W hL hk hC hw
                have f4 : vals 4 = .pointer (some ⟨g, 2 * n, none⟩) := Fe.get (hw ⟨4, .data⟩ (by simp) rfl) (by decide)
                clear hw
                clear hL hC hk
                refine step_plain rfl ?_
                go_simp
                first | exact ⟨Re.same (by decide), Fe.val (by decide) rfl rfl⟩ | exact ⟨_, rfl, Re.same (by decide), Fe.val (by decide) rfl rfl⟩
              · intro L W hL hk hC hw
                have f5 : vals 5 = .pointer (some ⟨g, 2 * n, none⟩) := Fe.get (hw ⟨5, .data⟩ (by simp) rfl) (by decide)
                clear hw
                clear hL hC hk
                refine step_plain rfl ?_
                go_simp
                first | exact ⟨Re.same (by decide), Fe.val (by decide) rfl rfl⟩ | exact ⟨_, rfl, Re.same (by decide), Fe.val (by decide) rfl rfl⟩
              · intro L W hL hk hC hw
                have f6 : vals 6 = .pointer (some ⟨g, 2 * n + 1, none⟩) := Fe.get (hw ⟨6, .data⟩ (by simp) rfl) (by decide)
                clear hw
                have hb := hC (hL.not_yet hk 13 8 (by decide +kernel))
                have kc : W.cell? ⟨g, 2 * n + 1, none⟩ = some (.slice (some ⟨gv, 0, none⟩) V cv) := ((BX2.out.later hb).cell (2 * n + 1)).trans CV.out
                clear hL hC hk hb
                refine step_plain rfl ?_
                go_simp
                first | exact ⟨Re.same (by decide), Fe.val (by decide) rfl rfl⟩ | exact ⟨_, rfl, Re.same (by decide), Fe.val (by decide) rfl rfl⟩
              · intro L W hL hk hC hw
                clear hw
                clear hL hC hk
                refine step_plain rfl ?_
                go_simp
                first | exact ⟨Re.same (by decide), Fe.val (by decide) rfl rfl⟩ | exact ⟨_, rfl, Re.same (by decide), Fe.val (by decide) rfl rfl⟩
              · intro L W hL hk hC hw
                have f7 : vals 7 = .slice (some ⟨gv, 0, none⟩) V cv := Fe.get (hw ⟨7, .data⟩ (by simp) rfl) (by decide)
                have f8 : vals 8 = .int .i64 (k : Int) := Fe.get (hw ⟨8, .data⟩ (by simp) rfl) (by decide)
                clear hw
                have hb := hC (hL.not_yet hk 13 8 (by decide +kernel))
                have h9 : k < V := HKV.out
                clear hL hC hk hb
                refine step_plain rfl ?_
                go_simp
                first | exact ⟨Re.same (by decide), Fe.val (by decide) rfl rfl⟩ | exact ⟨_, rfl, Re.same (by decide), Fe.val (by decide) rfl rfl⟩
              · intro L W hL hk hC hw
                have f9 : vals 9 = .pointer (some ⟨gv, k, none⟩) := Fe.get (hw ⟨9, .data⟩ (by simp) rfl) (by decide)
                clear hw
                have hb := hC (hL.not_yet hk 13 8 (by decide +kernel))
                have kc : W.cell? ⟨gv, k, none⟩ = some (.slice (some ⟨gx, 0, none⟩) 128 cx) := by rw [(own_below OV2.out hb).cellAt k (by have := HKV.out; omega)]; exact EX.out
                clear hL hC hk hb
                refine step_plain rfl ?_
                go_simp
                first | exact ⟨Re.same (by decide), Fe.val (by decide) rfl rfl⟩ | exact ⟨_, rfl, Re.same (by decide), Fe.val (by decide) rfl rfl⟩
              · intro L W hL hk hC hw
                clear hw
                clear hL hC hk
                refine step_plain rfl ?_
                go_simp
                first | exact ⟨Re.same (by decide), Fe.val (by decide) rfl rfl⟩ | exact ⟨_, rfl, Re.same (by decide), Fe.val (by decide) rfl rfl⟩
              · intro L W hL hk hC hw
                have f10 : vals 10 = .slice (some ⟨gx, 0, none⟩) 128 cx := Fe.get (hw ⟨10, .data⟩ (by simp) rfl) (by decide)
                have f11 : vals 11 = .int .i64 (t : Int) := Fe.get (hw ⟨11, .data⟩ (by simp) rfl) (by decide)
                clear hw
                have hb := hC (hL.not_yet hk 13 8 (by decide +kernel))
                have h9 : t ≤ cx := by have := HCX.out; have := HT.out; omega
                have h9i : (t : Int) ≤ (cx : Int) := by omega
                clear hL hC hk hb
                refine step_plain rfl ?_
                go_simp
                first | exact ⟨Re.same (by decide), Fe.val (by decide) rfl rfl⟩ | exact ⟨_, rfl, Re.same (by decide), Fe.val (by decide) rfl rfl⟩
              · intro L W hL hk hC hw
                have f3 : vals 3 = .slice (some ⟨gz, 0, none⟩) 128 cz := Fe.get (hw ⟨3, .data⟩ (by simp) rfl) (by decide)
                have f12 : vals 12 = .slice (some ⟨gx, 0, none⟩) t cx := Fe.get (hw ⟨12, .data⟩ (by simp) rfl) (by decide)
                clear hw
                have hb := hC hk
                have rz := RowAt.sc RZ2.out (Sc.of_below hb)
                have rx := (IX2.out.below hb).more hb.size
                clear hL hC hk
                refine step_plain rfl ?_
                refine Cpy.wp_copy_row W _ _ _ _ rfl 5 Try.underlying48 (by kernel_rfl) 5 0 gz 128 cz zs HZL.out f3 rz W.heap.size ⟨gx, 0, none⟩ cx t (xs.take t) (by rw [List.length_take, HXL.out]; have := HT.out; omega) f12 (rx.take (by have := HT.out; omega)) HT.out ?_
                intro w9 r9 g9
                exact ⟨_, rfl, Re.last (Fr.grown (Fr.refl _ _) g9 (fun q e => .inl (Option.some.inj e).symm)), Fe.last ⟨Fr.grown (Fr.of_below hb) g9 (fun q e => .inl (Option.some.inj e).symm), r9⟩⟩
            · simp only [TL, Act.put, List.setIfInBounds_toArray, List.set_cons_succ, List.set_cons_zero]
              have hb4 := (BX2.out.fr hfin.1 (fun e => HGG.out e.symm)).set_ (2 * n + 1) (.slice none 0 0)
              have kv3 : W.cell? ⟨g, 2 * n + 1, none⟩ = some (.slice (some ⟨gv, 0, none⟩) V cv) := ((BX2.out.fr hfin.1 (fun e => HGG.out e.symm)).cell _).trans CV.out
              have fv3 := (BX2.out.fr hfin.1 (fun e => HGG.out e.symm)).frozen (2 * n + 1)
              have hf3 : Fr (fun x => x = g ∨ col x = fc i + 1 + n) w W := Fr.sub (Fr.sub (Fr.of_below HB1.out) HF2.out (fun x _ hx => .inl hx)) hfin.1 (fun x _ hx => by rw [hx]; exact .inr HGZ.out.2)
              have hf4 := Fr.setCell hf3 (p := ⟨g, 2 * n + 1, none⟩) (.inl (.inl rfl)) (.slice none 0 0)
              have hl4 : (xs.take t ++ zs.drop (xs.take t).length).length = 128 := by rw [List.length_append, List.length_drop, List.length_take, HXL.out, HZL.out]; omega
              have hr0 := hfin.2.own
              rw [hl4] at hr0
              have hz4 := own_set_far' hr0 (p := ⟨g, 2 * n + 1, none⟩) (fun hx => by injection hx with hx; exact HGG.out hx) (.slice none 0 0)
              have hby4 : Bytes (xs.take t ++ zs.drop (xs.take t).length) := Bytes.app (fun x hx => HXB.out x (List.mem_of_mem_take hx)) (fun x hx => HKP.out.2.2 x (List.mem_of_mem_drop hx))
              clear hr0 hf3 hfin
              clear hall
              go_wp2
              obtain ⟨w4, hw4⟩ : ∃ w4, W.setCell ⟨g, 2 * n + 1, none⟩ (.slice none 0 0) = w4 := ⟨_, rfl⟩
              rw [hw4] at hb4 hf4 hz4
              have hend := crash_end HH.out hi SP.out (w4 := w4) (hf4) (.slice (some ⟨gz, 0, none⟩) 128 cz) (xs.take t ++ zs.drop (xs.take t).length) hz4 (hl4) (hby4) (fun x hx => by injection hx with hx; rw [← hx]; exact HGZ.out) hb4
              have HE := Lib.hid hend
              have hsp : s.crash (k : Int) (t : Int) = ⟨xs.take t ++ zs.drop (xs.take t).length, []⟩ := by
                have e1 : s.wait.length = V := by rw [HVL.out, SP1.out.sec.n]
                unfold Se.crash; rw [e1, HKE.out, if_pos HKV.out, HXS.out, HZS.out, show tp (t : Int) = t by unfold tp; have := HT.out; omega, List.length_take, HXL.out, Nat.min_eq_left HT.out]
              have HSP := Lib.hid hsp
              clear hsp
              clear hend hf4 hz4 hl4 hby4 hb4
              try rw [hw4]
              clear hw4
              go_end0
              rw [HSP.out]
              exact ⟨rfl, HE.out.1, HE.out.2⟩
          · skip
            have HT := Lib.hid (show 128 ≤ 128 by decide)
            go_wp2
            refine wp_region_end (by kernel_rfl) (by kernel_rfl) 13 (fun W W' => Fr (fun x => x = gz) W W') (fun W => Fr (fun x => x = gz) w2 W ∧ RowAt 5 W 0 gz (.slice (some ⟨gz, 0, none⟩) 128 cz) (xs.take 128 ++ zs.drop (xs.take 128).length)) [(fun v _ => v = .pointer (some ⟨g, 2 * n, none⟩)), (fun v _ => v = .pointer (some ⟨g, 2 * n, none⟩)), (fun v _ => v = .pointer (some ⟨g, 2 * n, none⟩)), (fun v _ => v = .slice (some ⟨gz, 0, none⟩) 128 cz), (fun v _ => v = .pointer (some ⟨g, 2 * n, none⟩)), (fun v _ => v = .pointer (some ⟨g, 2 * n, none⟩)), (fun v _ => v = .pointer (some ⟨g, 2 * n + 1, none⟩)), (fun v _ => v = .slice (some ⟨gv, 0, none⟩) V cv), (fun v _ => v = .int .i64 (k : Int)), (fun v _ => v = .pointer (some ⟨gv, k, none⟩)), (fun v _ => v = .slice (some ⟨gx, 0, none⟩) 128 cx), (fun v _ => v = .int .i64 128), (fun v _ => v = .slice (some ⟨gx, 0, none⟩) 128 cx), (fun v _ => v = undef)] (fun W W' hb h => ⟨h.1.below hb, h.2.sc (Sc.of_below hb)⟩) ?_ (fun vals => ?_) (fun vals W hfin hall => ?_) (by decide)
            · intro j v W W' hj hr h
              match j, hj, h with
              | 0, _, h => exact h
              | 1, _, h => exact h
              | 2, _, h => exact h
              | 3, _, h => exact h
              | 4, _, h => exact h
              | 5, _, h => exact h
              | 6, _, h => exact h
              | 7, _, h => exact h
              | 8, _, h => exact h
              | 9, _, h => exact h
              | 10, _, h => exact h
              | 11, _, h => exact h
              | 12, _, h => exact h
              | 13, hj, _ => exact absurd rfl hj
              | _ + 14, _, _ => trivial
            · simp only [ObL, Act.put, List.setIfInBounds_toArray, List.set_cons_succ, List.set_cons_zero]
              refine ⟨?_, ?_, ?_, ?_, ?_, ?_, ?_, ?_, ?_, ?_, ?_, ?_, ?_, ?_, trivial⟩
              · intro L W hL hk hC hw
                clear hw
                clear hL hC hk
                refine step_plain rfl ?_
                go_simp
                first | exact ⟨Re.same (by decide), Fe.val (by decide) rfl rfl⟩ | exact ⟨_, rfl, Re.same (by decide), Fe.val (by decide) rfl rfl⟩
              · intro L W hL hk hC hw
                have f0 : vals 0 = .pointer (some ⟨g, 2 * n, none⟩) := Fe.get (hw ⟨0, .data⟩ (by simp) rfl) (by decide)
                clear hw
                clear hL hC hk
                refine step_plain rfl ?_
                go_simp
                first | exact ⟨Re.same (by decide), Fe.val (by decide) rfl rfl⟩ | exact ⟨_, rfl, Re.same (by decide), Fe.val (by decide) rfl rfl⟩
              · intro L W hL hk hC hw
                have f1 : vals 1 = .pointer (some ⟨g, 2 * n, none⟩) := Fe.get (hw ⟨1, .data⟩ (by simp) rfl) (by decide)
                clear hw
                clear hL hC hk
                refine step_plain rfl ?_
                go_simp
                first | exact ⟨Re.same (by decide), Fe.val (by decide) rfl rfl⟩ | exact ⟨_, rfl, Re.same (by decide), Fe.val (by decide) rfl rfl⟩
              · intro L W hL hk hC hw
                have f2 : vals 2 = .pointer (some ⟨g, 2 * n, none⟩) := Fe.get (hw ⟨2, .data⟩ (by simp) rfl) (by decide)
                clear hw
                have hb := hC (hL.not_yet hk 13 8 (by decide +kernel))
                have kc : W.cell? ⟨g, 2 * n, none⟩ = some (.slice (some ⟨gz, 0, none⟩) 128 cz) := ((BX2.out.later hb).cell (2 * n)).trans CZ.out
                clear hL hC hk hb
                refine step_plain rfl ?_
                go_simp
                first | exact ⟨Re.same (by decide), Fe.val (by decide) rfl rfl⟩ | exact ⟨_, rfl, Re.same (by decide), Fe.val (by decide) rfl rfl⟩
              · intro L W hL hk hC hw
                clear hw
                clear hL hC hk
                refine step_plain rfl ?_
                go_simp
                first | exact ⟨Re.same (by decide), Fe.val (by decide) rfl rfl⟩ | exact ⟨_, rfl, Re.same (by decide), Fe.val (by decide) rfl rfl⟩
              · intro L W hL hk hC hw
                have f4 : vals 4 = .pointer (some ⟨g, 2 * n, none⟩) := Fe.get (hw ⟨4, .data⟩ (by simp) rfl) (by decide)
                clear hw
                clear hL hC hk
                refine step_plain rfl ?_
                go_simp
                first | exact ⟨Re.same (by decide), Fe.val (by decide) rfl rfl⟩ | exact ⟨_, rfl, Re.same (by decide), Fe.val (by decide) rfl rfl⟩
              · intro L W hL hk hC hw
                have f5 : vals 5 = .pointer (some ⟨g, 2 * n, none⟩) := Fe.get (hw ⟨5, .data⟩ (by simp) rfl) (by decide)
                clear hw
                clear hL hC hk
                refine step_plain rfl ?_
                go_simp
                first | exact ⟨Re.same (by decide), Fe.val (by decide) rfl rfl⟩ | exact ⟨_, rfl, Re.same (by decide), Fe.val (by decide) rfl rfl⟩
              · intro L W hL hk hC hw
                have f6 : vals 6 = .pointer (some ⟨g, 2 * n + 1, none⟩) := Fe.get (hw ⟨6, .data⟩ (by simp) rfl) (by decide)
                clear hw
                have hb := hC (hL.not_yet hk 13 8 (by decide +kernel))
                have kc : W.cell? ⟨g, 2 * n + 1, none⟩ = some (.slice (some ⟨gv, 0, none⟩) V cv) := ((BX2.out.later hb).cell (2 * n + 1)).trans CV.out
                clear hL hC hk hb
                refine step_plain rfl ?_
                go_simp
                first | exact ⟨Re.same (by decide), Fe.val (by decide) rfl rfl⟩ | exact ⟨_, rfl, Re.same (by decide), Fe.val (by decide) rfl rfl⟩
              · intro L W hL hk hC hw
                clear hw
                clear hL hC hk
                refine step_plain rfl ?_
                go_simp
                first | exact ⟨Re.same (by decide), Fe.val (by decide) rfl rfl⟩ | exact ⟨_, rfl, Re.same (by decide), Fe.val (by decide) rfl rfl⟩
              · intro L W hL hk hC hw
                have f7 : vals 7 = .slice (some ⟨gv, 0, none⟩) V cv := Fe.get (hw ⟨7, .data⟩ (by simp) rfl) (by decide)
                have f8 : vals 8 = .int .i64 (k : Int) := Fe.get (hw ⟨8, .data⟩ (by simp) rfl) (by decide)
                clear hw
                have hb := hC (hL.not_yet hk 13 8 (by decide +kernel))
                have h9 : k < V := HKV.out
                clear hL hC hk hb
                refine step_plain rfl ?_
                go_simp
                first | exact ⟨Re.same (by decide), Fe.val (by decide) rfl rfl⟩ | exact ⟨_, rfl, Re.same (by decide), Fe.val (by decide) rfl rfl⟩
              · intro L W hL hk hC hw
                have f9 : vals 9 = .pointer (some ⟨gv, k, none⟩) := Fe.get (hw ⟨9, .data⟩ (by simp) rfl) (by decide)
                clear hw
                have hb := hC (hL.not_yet hk 13 8 (by decide +kernel))
                have kc : W.cell? ⟨gv, k, none⟩ = some (.slice (some ⟨gx, 0, none⟩) 128 cx) := by rw [(own_below OV2.out hb).cellAt k (by have := HKV.out; omega)]; exact EX.out
                clear hL hC hk hb
                refine step_plain rfl ?_
                go_simp
                first | exact ⟨Re.same (by decide), Fe.val (by decide) rfl rfl⟩ | exact ⟨_, rfl, Re.same (by decide), Fe.val (by decide) rfl rfl⟩
              · intro L W hL hk hC hw
                clear hw
                clear hL hC hk
                refine step_plain rfl ?_
                go_simp
                first | exact ⟨Re.same (by decide), Fe.val (by decide) rfl rfl⟩ | exact ⟨_, rfl, Re.same (by decide), Fe.val (by decide) rfl rfl⟩
              · intro L W hL hk hC hw
                have f10 : vals 10 = .slice (some ⟨gx, 0, none⟩) 128 cx := Fe.get (hw ⟨10, .data⟩ (by simp) rfl) (by decide)
                have f11 : vals 11 = .int .i64 128 := Fe.get (hw ⟨11, .data⟩ (by simp) rfl) (by decide)
                clear hw
                have hb := hC (hL.not_yet hk 13 8 (by decide +kernel))
                have h9 : 128 ≤ cx := by have := HCX.out; have := HT.out; omega
                have h9i : 128 ≤ (cx : Int) := by omega
                clear hL hC hk hb
                refine step_plain rfl ?_
                go_simp
                first | exact ⟨Re.same (by decide), Fe.val (by decide) rfl rfl⟩ | exact ⟨_, rfl, Re.same (by decide), Fe.val (by decide) rfl rfl⟩
              · intro L W hL hk hC hw
                have f3 : vals 3 = .slice (some ⟨gz, 0, none⟩) 128 cz := Fe.get (hw ⟨3, .data⟩ (by simp) rfl) (by decide)
                have f12 : vals 12 = .slice (some ⟨gx, 0, none⟩) 128 cx := Fe.get (hw ⟨12, .data⟩ (by simp) rfl) (by decide)
                clear hw
                have hb := hC hk
                have rz := RowAt.sc RZ2.out (Sc.of_below hb)
                have rx := (IX2.out.below hb).more hb.size
                clear hL hC hk
                refine step_plain rfl ?_
                refine Cpy.wp_copy_row W _ _ _ _ rfl 5 Try.underlying48 (by kernel_rfl) 5 0 gz 128 cz zs HZL.out f3 rz W.heap.size ⟨gx, 0, none⟩ cx 128 (xs.take 128) (by rw [List.length_take, HXL.out]; have := HT.out; omega) f12 (rx.take (by have := HT.out; omega)) HT.out ?_
                intro w9 r9 g9
                exact ⟨_, rfl, Re.last (Fr.grown (Fr.refl _ _) g9 (fun q e => .inl (Option.some.inj e).symm)), Fe.last ⟨Fr.grown (Fr.of_below hb) g9 (fun q e => .inl (Option.some.inj e).symm), r9⟩⟩
            · simp only [TL, Act.put, List.setIfInBounds_toArray, List.set_cons_succ, List.set_cons_zero]
              have hb4 := (BX2.out.fr hfin.1 (fun e => HGG.out e.symm)).set_ (2 * n + 1) (.slice none 0 0)
              have kv3 : W.cell? ⟨g, 2 * n + 1, none⟩ = some (.slice (some ⟨gv, 0, none⟩) V cv) := ((BX2.out.fr hfin.1 (fun e => HGG.out e.symm)).cell _).trans CV.out
              have fv3 := (BX2.out.fr hfin.1 (fun e => HGG.out e.symm)).frozen (2 * n + 1)
              have hf3 : Fr (fun x => x = g ∨ col x = fc i + 1 + n) w W := Fr.sub (Fr.sub (Fr.of_below HB1.out) HF2.out (fun x _ hx => .inl hx)) hfin.1 (fun x _ hx => by rw [hx]; exact .inr HGZ.out.2)
              have hf4 := Fr.setCell hf3 (p := ⟨g, 2 * n + 1, none⟩) (.inl (.inl rfl)) (.slice none 0 0)
              have hl4 : (xs.take 128 ++ zs.drop (xs.take 128).length).length = 128 := by rw [List.length_append, List.length_drop, List.length_take, HXL.out, HZL.out]; omega
              have hr0 := hfin.2.own
              rw [hl4] at hr0
              have hz4 := own_set_far' hr0 (p := ⟨g, 2 * n + 1, none⟩) (fun hx => by injection hx with hx; exact HGG.out hx) (.slice none 0 0)
              have hby4 : Bytes (xs.take 128 ++ zs.drop (xs.take 128).length) := Bytes.app (fun x hx => HXB.out x (List.mem_of_mem_take hx)) (fun x hx => HKP.out.2.2 x (List.mem_of_mem_drop hx))
              clear hr0 hf3 hfin
              clear hall
              go_wp2
              obtain ⟨w4, hw4⟩ : ∃ w4, W.setCell ⟨g, 2 * n + 1, none⟩ (.slice none 0 0) = w4 := ⟨_, rfl⟩
              rw [hw4] at hb4 hf4 hz4
              have hend := crash_end HH.out hi SP.out (w4 := w4) (hf4) (.slice (some ⟨gz, 0, none⟩) 128 cz) (xs.take 128 ++ zs.drop (xs.take 128).length) hz4 (hl4) (hby4) (fun x hx => by injection hx with hx; rw [← hx]; exact HGZ.out) hb4
              have HE := Lib.hid hend
              have hsp : s.crash (k : Int) T = ⟨xs.take 128 ++ zs.drop (xs.take 128).length, []⟩ := by
                have e1 : s.wait.length = V := by rw [HVL.out, SP1.out.sec.n]
                unfold Se.crash; rw [e1, HKE.out, if_pos HKV.out, HXS.out, HZS.out, show tp T = 128 by unfold tp; omega, List.length_take, HXL.out, Nat.min_eq_left HT.out]
              have HSP := Lib.hid hsp
              clear hsp
              clear hend hf4 hz4 hl4 hby4 hb4
              try rw [hw4]
              clear hw4
              go_end0
              rw [HSP.out]
              exact ⟨rfl, HE.out.1, HE.out.2⟩
      · skip
        have HKVe := Lib.hid hlt
        have dkv : decide (((k : Int)) < (V : Int)) = false := by simp; omega
        have dkvn : decide (k < V) = false := by simp; omega
        clear hlt
        go_wp2
        have hb4 := BX2.out.set_ (2 * n + 1) (.slice none 0 0)
        have hf3 : Fr (fun x => x = g ∨ col x = fc i + 1 + n) w w2 := Fr.sub (Fr.of_below HB1.out) HF2.out (fun x _ hx => .inl hx)
        have hf4 := Fr.setCell hf3 (p := ⟨g, 2 * n + 1, none⟩) (.inl (.inl rfl)) (.slice none 0 0)
        have hz4 := own_set_far' (own_frS HKP.out.1.1 HF2.out (fun x hx hs => by injection hx with hx; exact HGG.out (hx.trans hs))) (p := ⟨g, 2 * n + 1, none⟩) (fun hx => by injection hx with hx; exact HGG.out hx) (.slice none 0 0)
        obtain ⟨w4, hw4⟩ : ∃ w4, w2.setCell ⟨g, 2 * n + 1, none⟩ (.slice none 0 0) = w4 := ⟨_, rfl⟩
        rw [hw4] at hb4 hf4 hz4
        have hl4 := HKP.out.2.1
        have hby4 := HKP.out.2.2
        clear hf3
        have hend := crash_end HH.out hi SP.out (w4 := w4) (hf4) (.slice (some ⟨gz, 0, none⟩) 128 cz) (zs) hz4 (hl4) (hby4) (fun x hx => by injection hx with hx; rw [← hx]; exact HGZ.out) hb4
        have HE := Lib.hid hend
        have hsp : s.crash (k : Int) T = ⟨zs, []⟩ := by
          have e1 : s.wait.length = V := by rw [HVL.out, SP1.out.sec.n]
          unfold Se.crash; rw [e1, HKE.out, if_neg (by rw [HKVe.out]; exact Nat.lt_irrefl _), HZS.out]
        have HSP := Lib.hid hsp
        clear hsp
        clear hend hf4 hz4 hl4 hby4 hb4
        try rw [hw4]
        clear hw4
        go_end0
        rw [HSP.out]
        exact ⟨rfl, HE.out.1, HE.out.2⟩
    · have hK2 : (V : Int) < K := by omega
      have hK3 : ¬ K < 0 := hK0
      go_quiet (fail)
      obtain ⟨w1, hw1⟩ : ∃ w1, (w.alloc (.cells #[.int .u8 F, .int .i64 se, .int .i64 K, .int .i64 T] 81)).drewN nq = w1 := ⟨_, rfl⟩
      have HB1 := Lib.hid (show Below w.heap.size w w1 by rw [← hw1]; exact below_drewN (new_ (Below.refl _ _) _) nq)
      have SP1 := Lib.hid (SP.out.later HB1.out)
      have BT1 := Lib.hid (show Box w1 w.heap.size #[.int .u8 F, .int .i64 se, .int .i64 K, .int .i64 T] 81 by rw [← hw1]; exact BF.out.drewN nq)
      try rw [hw1]
      clear hw1 kf kg BF BX1
      have HKV0 := Lib.hid (Nat.le_refl V)
      have hkp : kp K V = V := by unfold kp; omega
      have HKE := Lib.hid hkp
      clear hkp hK0 hK1 hK2 hK3
      have KP := Lib.hid (keep_at ((V : Int)) (V) rfl w1 g (2 * n) C 78 p.1 p.2.1 p.2.2 SP1.out.box SP1.out.c0 SP1.out.c1 SP1.out.sec.wait.1 (by have := HVL.out; have := HKV0.out; omega) (by have := HVL.out; have := HVB.out; omega) SP1.out.sec.form_w)
      have hkeep := SP1.out.sec.keep (V) (by have := HVL.out; have := HKV0.out; omega)
      obtain ⟨z, hz⟩ : ∃ z, z = (if V = 0 then p.1 else p.2.2.getD (V - 1) p.1) := ⟨_, rfl⟩
      rw [← hz] at KP hkeep
      obtain ⟨gz, cz, ez, _⟩ := own_g hkeep.1.1 (by decide)
      subst ez
      obtain ⟨zs, hzs⟩ : ∃ zs, zs = s.keep (V) := ⟨_, rfl⟩
      rw [← hzs] at hkeep
      have HKP := Lib.hid hkeep
      have HZS := Lib.hid hzs
      clear hz hkeep hzs
      go_wp2_with fail
      (with_reducible refine KP.out.mono ?_)
      rintro e w2 ⟨rfl, hb2, hf2⟩
      have BX2 := Lib.hid hb2
      have HF2 := Lib.hid hf2
      have CV := Lib.hid (show (C.setIfInBounds (2 * n) (.slice (some ⟨gz, 0, none⟩) 128 cz))[2 * n + 1]? = some (.slice Av V cv) by rw [Array.getElem?_setIfInBounds_ne (by omega), ← EV.out]; exact SP1.out.c1)
      have CZ := Lib.hid (show (C.setIfInBounds (2 * n) (.slice (some ⟨gz, 0, none⟩) 128 cz))[2 * n]? = some (.slice (some ⟨gz, 0, none⟩) 128 cz) by
        have := (Array.getElem?_eq_some_iff.1 SP1.out.c0).1
        rw [Array.getElem?_setIfInBounds_self_of_lt this])
      have kv2 : w2.cell? ⟨g, 2 * n + 1, none⟩ = some (.slice Av V cv) := (BX2.out.cell _).trans CV.out
      have fv2 := BX2.out.frozen (2 * n + 1)
      have FT2 := Lib.hid (BT1.out.fr hf2 (by have := SP1.out.box.lt; have := HGW.out; omega))
      have kt := FT2.out.cell
      have HGZ := Lib.hid (show gz < w.heap.size ∧ col gz = fc i + 1 + n by
        have h9 := HKP.out.1.2 gz rfl
        exact ⟨HOLD.out gz (by rw [h9]; unfold fc; omega), h9⟩)
      have HGG := Lib.hid (show gz ≠ g from fun e => by have h1 := HGZ.out.2; rw [e, SP1.out.hcol] at h1; omega)
      clear hb2 hf2
      have dkv : decide (V < V) = false := by simp
      have dkv' : decide ((V : Int) < (V : Int)) = false := by simp
      go_wp2
      have hb4 := BX2.out.set_ (2 * n + 1) (.slice none 0 0)
      have hf3 : Fr (fun x => x = g ∨ col x = fc i + 1 + n) w w2 := Fr.sub (Fr.of_below HB1.out) HF2.out (fun x _ hx => .inl hx)
      have hf4 := Fr.setCell hf3 (p := ⟨g, 2 * n + 1, none⟩) (.inl (.inl rfl)) (.slice none 0 0)
      have hz4 := own_set_far' (own_frS HKP.out.1.1 HF2.out (fun x hx hs => by injection hx with hx; exact HGG.out (hx.trans hs))) (p := ⟨g, 2 * n + 1, none⟩) (fun hx => by injection hx with hx; exact HGG.out hx) (.slice none 0 0)
      obtain ⟨w4, hw4⟩ : ∃ w4, w2.setCell ⟨g, 2 * n + 1, none⟩ (.slice none 0 0) = w4 := ⟨_, rfl⟩
      rw [hw4] at hb4 hf4 hz4
      have hl4 := HKP.out.2.1
      have hby4 := HKP.out.2.2
      clear hf3
      have hend := crash_end HH.out hi SP.out (w4 := w4) (hf4) (.slice (some ⟨gz, 0, none⟩) 128 cz) (zs) hz4 (hl4) (hby4) (fun x hx => by injection hx with hx; rw [← hx]; exact HGZ.out) hb4
      have HE := Lib.hid hend
      have hsp : s.crash K T = ⟨zs, []⟩ := by
        have e1 : s.wait.length = V := by rw [HVL.out, SP1.out.sec.n]
        unfold Se.crash; rw [e1, HKE.out, if_neg (Nat.lt_irrefl _), HZS.out]
      have HSP := Lib.hid hsp
      clear hsp
      clear hend hf4 hz4 hl4 hby4 hb4
      try rw [hw4]
      clear hw4
      go_end0
      rw [HSP.out]
      exact ⟨rfl, HE.out.1, HE.out.2⟩
end Go.Proofs.Yteggcehjpfmikaa.Disk
