/- The law manciplelaw13.LockLine returns true whatever it is called with, and what it was called with reads as it did. No condition. -/
import Derived.Test.YtpndcpmfcajmdaaLaw
import Derived.Test.YtpndcpmfcajmdaaLm7
import Derived.Deep.QuietTactic
namespace Go.Proofs.Ytpndcpmfcajmdaa.LLockLine
open Go.ChangeShapes Go.WideShapes Go.ChangeAt Go.RowKit Go.IntWalk Go.Proofs.Mem Law
set_option linter.unusedVariables false
open Go.Proofs.Ytpndcpmfcajmdaa.Lock Go.Proofs.Each
def frm (es : List (Int × Int)) (x : Int) : Bool := es.any fun q => decide (q.1 = x)
theorem ed_snoc (es : List (Int × Int)) (m : Nat) (p : Int × Int) (x : Int) (hp : es[m]? = some p) : frm (es.take (m + 1)) x = (frm (es.take m) x || decide (p.1 = x)) := by
  unfold frm
  rw [List.take_add_one, hp, List.any_append]
  simp
theorem ed_all {T : Tb} {fr : List Int} (hi : Inv T) (hf : Fst T) (he : EdR T fr (ahL T)) (x : Int) : frm (eds T fr) x = (T.wt x).isSome := by
  unfold frm
  cases h : (T.wt x).isSome with
  | true =>
    obtain ⟨y, hy⟩ := edR_some hi hf he h
    exact List.any_eq_true.2 ⟨_, hy, by simp⟩
  | false =>
    rw [← Bool.not_eq_true, List.any_eq_true]
    rintro ⟨⟨a, b⟩, h1, h2⟩
    simp only [decide_eq_true_eq] at h2
    subst h2
    rw [edR_waits he h1] at h; cases h
def rlo (x : Int) : Lo := ⟨4, x, ⟨0, 0, 0⟩, 0⟩
set_option maxRecDepth 100000 in
set_option maxHeartbeats 16000000 in
theorem walk (w : World) (l : Value) (xl : List Lock.Lo) (hl : SS Lock.cLo 6 w w.heap.size l xl) (bl : ∀ o ∈ xl, Lock.Lo.Ok o) :
    Calls Try.prog 5 #[l] w fun e w' => e = .returned (.bool true) ∧ Below w.heap.size w w' := by
  obtain ⟨A, c, rfl, hlc, hcm⟩ := hl.form
  have HL := Lib.hid hl
  have BL := Lib.hid bl
  have KN := Lib.hid (fun W => known_any W)
  clear hl bl
  by_cases hlen : 40 < xl.length
  · have d1 : decide (40 < (xl.length : Int)) = true := decide_eq_true (by omega)
    have d1' : decide (40 < xl.length) = true := decide_eq_true hlen
    go_enter Try.func5, Try.ntmps5
    go_wp2_with fail
    (with_reducible refine (KN.out _).mono ?_)
    rintro e w2 ⟨rfl, hb2⟩
    go_wp2
    go_ret
    exact ⟨rfl, hb2⟩
  · have d1 : decide (40 < (xl.length : Int)) = false := decide_eq_false (by omega)
    have d1' : decide (40 < xl.length) = false := decide_eq_false hlen
    have hl40 : xl.length ≤ 60 := by omega
    have HN := Lib.hid hl40
    have CRN := Lib.hid (fun (W : World) (h : SS Lock.cLo 6 W W.heap.size (.slice A xl.length c) xl) => run_any W _ xl h BL.out HN.out)
    clear hlc hcm hlen hl40
    go_enter Try.func5, Try.ntmps5
    go_wp2_with fail
    (with_reducible refine (KN.out _).mono ?_)
    rintro e w2 ⟨rfl, hb2⟩
    have HB2 := Lib.hid hb2
    have HSW := Lib.hid (show SS Lock.cLo 6 w2 w2.heap.size (.slice A xl.length c) xl from (HL.out.below hb2).more hb2.size)
    clear hb2
    go_wp2_with fail
    (with_reducible refine (CRN.out _ HSW.out).mono ?_)
    rintro e w3 ⟨t, V, T, S, rfl, hp3, hb3, hz3⟩
    obtain ⟨Nb, hNb, htb⟩ := hp3.tab
    have HRUN := Lib.hid hp3.run
    have HT := Lib.hid htb
    have HSO := Lib.hid (show ∀ x, S x → x < w3.heap.size from htb.old)
    have HWI := Lib.hid (IR.of_own hp3.who)
    have HWN := Lib.hid hp3.who
    obtain ⟨A3, c3, rfl, _, _⟩ := own_is hp3.who
    have HFR := Lib.hid hp3.far
    have HB3 := Lib.hid (show Below w.heap.size w w3 from HB2.out.trans (hb3.mono HB2.out.size))
    have HBS := Lib.hid (show ∀ x, S x → w.heap.size ≤ x from fun x hx => Nat.le_trans HB2.out.size (hp3.base x hx))
    have HNB := Lib.hid (show Nb ≤ 6000 ∧ (whoOf xl).length ≤ 60 from ⟨by have := HN.out; omega, by have := who_len xl; have := HN.out; omega⟩)
    obtain ⟨n, hn⟩ : ∃ n, (whoOf xl).length = n := ⟨_, rfl⟩
    have HNW := Lib.hid hn
    rw [hn] at HWI HWN HFR ⊢
    have bn : (n : Int) ≤ 60 := by have := HNB.out.2; omega
    have HWO := Lib.hid (who_ok BL.out)
    have CW := Lib.hid (fun (W : World) (x : Int) (hW : Below w3.heap.size w3 W) (hx : U32 x) => waits_any W S Nb xl.length t T x (HT.out.later hW) hx)
    have CE := Lib.hid (edges_any w3 S Nb xl.length t T htb (inv_run hp3.run) (line_run hp3.run).1 (by have := HN.out; omega) (by have := HN.out; omega))
    clear hp3 hb3 hz3 hNb htb hn CRN HSW KN d1 d1'
    go_wp2_with fail
    (with_reducible refine (CE.out).mono ?_)
    rintro e w4 ⟨v4, fr, rfl, he4, hel4, ho4, hb4⟩
    obtain ⟨A4, c4, hv4, _, _⟩ := (SS.of_own cEd_len ho4).form
    subst hv4
    have HED := Lib.hid he4
    have HES := Lib.hid (SS.of_own cEd_len ho4)
    obtain ⟨es, hes⟩ : ∃ es, eds T fr = es := ⟨_, rfl⟩
    have HEE := Lib.hid hes
    rw [hes] at HES hel4 ⊢
    obtain ⟨ne, hne⟩ : ∃ ne, es.length = ne := ⟨_, rfl⟩
    have HNE := Lib.hid hne
    rw [hne] at HES hel4 ⊢
    have bne : (ne : Int) ≤ 50000000000 := by omega
    have HB4 := Lib.hid (show Below w3.heap.size w3 w4 from hb4)
    clear he4 ho4 hb4 hes hne hel4 CE
    go_wp2
    go_loopw [6, 7, 8, 9, 10] (fun s6 _ _ _ _ wr => ∃ (i : Nat), s6 = .int .i64 i ∧ i ≤ n ∧ Hid (Below w3.heap.size w3 wr) ∧ Hid (Below w4.heap.size w4 wr)) (fun s6 _ _ _ _ _ => n - (intOf s6).toNat)
    case atStart => exact ⟨0, rfl, Nat.zero_le _, HB4, Lib.hid (Below.refl _ _)⟩
    case round =>
      obtain ⟨i, rfl, hi, HB, HBE⟩ := hrel
      obtain ⟨w5, rfl⟩ : ∃ w5, w5 = wr := ⟨wr, rfl⟩
      by_cases hil : i < n
      · have d1 : decide ((i : Int) < (n : Int)) = true := by simp; omega
        have d1' : decide (i < n) = true := by simp; omega
        obtain ⟨x, hx⟩ : ∃ x, (whoOf xl)[i]? = some x := ⟨_, List.getElem?_eq_getElem (by have := HNW.out; omega)⟩
        have hxe : (whoOf xl).getD i 0 = x := by rw [List.getD, hx]; rfl
        obtain ⟨bl, ol, hA, hbl, hcell⟩ := HWI.out.index i hil
        rw [hxe] at hcell
        subst hA
        have HXU := Lib.hid (HWO.out x (List.mem_of_getElem? hx))
        have HXC := Lib.hid (fun (W : World) (hW : Below w3.heap.size w3 W) => (hW.cell (p := ⟨bl, ol + i, none⟩) hbl).trans hcell)
        have k1 : w5.cell? ⟨bl, ol + i, none⟩ = some (.int .u32 x) := HXC.out w5 HB.out
        have hw2 : IntKind.i64.wrap ((i : Int) + 1) = ((i + 1 : Nat) : Int) := by rw [IntKind.wrap_i64]; omega
        clear hx hxe hcell
        go_wp2_with fail
        (with_reducible refine (CW.out _ _ HB.out HXU.out).mono ?_)
        rintro e w6 ⟨rfl, hb6⟩
        obtain ⟨hd, hhd⟩ : ∃ hd, (T.wt x).getD zHd = hd := ⟨_, rfl⟩
        obtain ⟨q5, hq5⟩ : ∃ q, (T.wt x).isSome = q := ⟨_, rfl⟩
        have HQ5 := Lib.hid hq5
        rw [hhd, hq5]
        obtain ⟨xk, xa, xb, xm⟩ := hd
        have hb7 := new_ (Below.refl w6.heap.size w6) (.cells #[.int .u8 xk, .int .u32 xa, .int .u32 xb, .int .u8 xm] 45)
        have HB7 := Lib.hid (show Below w3.heap.size w3 (w6.alloc (.cells #[.int .u8 xk, .int .u32 xa, .int .u32 xb, .int .u8 xm] 45)) from (HB.out.trans (hb6.mono HB.out.size)).trans (hb7.mono (Nat.le_trans HB.out.size hb6.size)))
        have HBE7 := Lib.hid (show Below w4.heap.size w4 (w6.alloc (.cells #[.int .u8 xk, .int .u32 xa, .int .u32 xb, .int .u8 xm] 45)) from (HBE.out.trans (hb6.mono HBE.out.size)).trans (hb7.mono (Nat.le_trans HBE.out.size hb6.size)))
        clear hb6 hb7 hhd hq5 k1 HB HBE
        unfold Hd.v
        go_upto_region 12 with fail
        generalize w6.alloc (.cells #[.int .u8 xk, .int .u32 xa, .int .u32 xb, .int .u8 xm] 45) = w7 at HB7 HBE7 ⊢
        go_wp2
        go_loopw [9, 10] (fun s9 s10 wr => ∃ m d : Nat, m ≤ ne ∧ s9 = .bool (frm (es.take m) x) ∧ s10 = .int .i64 m ∧ wr = w7.drewN d) (fun _ s10 _ => ne - (intOf s10).toNat)
        case atStart => exact ⟨0, 0, Nat.zero_le _, by simp [frm], rfl, rfl⟩
        case round =>
          obtain ⟨m, d, hm, rfl, rfl, hd⟩ := hrel
          obtain ⟨wa, rfl⟩ : ∃ wa, wa = wr := ⟨wr, rfl⟩
          by_cases hml : m < ne
          · have d2 : decide ((m : Int) < (ne : Int)) = true := by simp; omega
            have d2' : decide (m < ne) = true := by simp; omega
            obtain ⟨p, hp⟩ : ∃ p, es[m]? = some p := ⟨_, List.getElem?_eq_getElem (by have := HNE.out; omega)⟩
            obtain ⟨b8, o8, hA8, hb8, hc8⟩ := HES.out.at_ hp
            have hq2 := ed_snoc es m p x hp
            obtain ⟨pa, pb⟩ := p
            have e1 : ∀ d', (wa.drewN d').cell? ⟨bl, ol + i, none⟩ = some (.int .u32 x) := fun d' => by rw [hd]; exact HXC.out w7 HB7.out
            have e2 : ∀ d', (wa.drewN d').cell? ⟨b8, o8 + m * 2, none⟩ = some (.int .u32 pa) := fun d' => by rw [hd]; exact (HBE7.out.cell (p := ⟨b8, o8 + m * 2, none⟩) hb8).trans (hc8 0 _ rfl)
            obtain ⟨q, hq⟩ : ∃ q, frm (es.take m) x = q := ⟨_, rfl⟩
            obtain ⟨r', hr'⟩ : ∃ r', decide (pa = x) = r' := ⟨_, rfl⟩
            have hyx : (pa == x) = r' := by rw [← hr']; exact u32eq pa x
            rw [hq, hr'] at hq2
            have HQ2 := Lib.hid hq2
            have HD := Lib.hid hd
            have hw3 : IntKind.i64.wrap ((m : Int) + 1) = ((m + 1 : Nat) : Int) := by rw [IntKind.wrap_i64]; omega
            subst hA8
            rw [hq]
            clear hq hq2 hp hb8 hc8 hd hr'
            cases q with
            | true =>
              go_upto_region 15 with fail
              go_quiet (fail)
              go_wp2
              go_roundw
              case rel => exact ⟨m + 1, d + nq, by omega, by rw [HQ2.out]; rfl, by go_num, by rw [HD.out]; simp [World.drewN, Nat.add_assoc]⟩
              case measure => simp [intOf]; omega
            | false =>
              go_upto_region 15 with fail
              go_quiet (fail)
              go_wp2
              go_roundw
              case rel => exact ⟨m + 1, d + nq, by omega, by rw [HQ2.out]; rfl, by go_num, by rw [HD.out]; simp [World.drewN, Nat.add_assoc]⟩
              case measure => simp [intOf]; omega
          · have d2 : decide ((m : Int) < (ne : Int)) = false := by simp; omega
            have d2' : decide (m < ne) = false := by simp; omega
            have htk : es.take m = es := by rw [show m = ne by omega, ← HNE.out, List.take_length]
            have hqq : frm (es.take m) x = q5 := by rw [htk, ← HEE.out, ← HQ5.out]; exact ed_all (inv_run HRUN.out) (line_run HRUN.out).1 HED.out x
            rw [hqq]
            have HBa := Lib.hid (show Below w3.heap.size w3 wa by rw [hd]; exact below_drewN HB7.out d)
            have HBb := Lib.hid (show Below w4.heap.size w4 wa by rw [hd]; exact below_drewN HBE7.out d)
            clear htk hqq hd
            have hqn : (q5 != q5) = false := by cases q5 <;> rfl
            cases q5 <;>
            · go_wp2
              go_roundw
              case rel => exact ⟨i + 1, by go_num, by omega, HBa, HBb⟩
              case measure => simp [intOf]; omega
      · have d1 : decide ((i : Int) < (n : Int)) = false := by simp; omega
        have d1' : decide (i < n) = false := by simp; omega
        go_wp2
        go_loopw [11] (fun s11 wr => ∃ m d : Nat, m ≤ ne ∧ s11 = .int .i64 m ∧ wr = w5.drewN d) (fun s11 _ => ne - (intOf s11).toNat)
        case atStart => exact ⟨0, 0, Nat.zero_le _, rfl, rfl⟩
        case round =>
          obtain ⟨m, d, hm, rfl, hd⟩ := hrel
          obtain ⟨wa, rfl⟩ : ∃ wa, wa = wr := ⟨wr, rfl⟩
          by_cases hml : m < ne
          · have d2 : decide ((m : Int) < (ne : Int)) = true := by simp; omega
            have d2' : decide (m < ne) = true := by simp; omega
            obtain ⟨p, hp⟩ : ∃ p, es[m]? = some p := ⟨_, List.getElem?_eq_getElem (by have := HNE.out; omega)⟩
            obtain ⟨b8, o8, hA8, hb8, hc8⟩ := HES.out.at_ hp
            have hne2 : p.1 ≠ p.2 := edR_irr (inv_run HRUN.out) HED.out (x := p.1) (y := p.2) (by have := List.mem_of_getElem? hp; rw [← HEE.out] at this; exact this)
            obtain ⟨pa, pb⟩ := p
            have hpb : (pa == pb) = false := by rw [u32eq]; exact decide_eq_false hne2
            have e1 : ∀ d', (wa.drewN d').cell? ⟨b8, o8 + m * 2, none⟩ = some (.int .u32 pa) := fun d' => by rw [hd]; exact (HBE.out.cell (p := ⟨b8, o8 + m * 2, none⟩) hb8).trans (hc8 0 _ rfl)
            have e2 : ∀ d', (wa.drewN d').cell? ⟨b8, o8 + m * 2 + 1, none⟩ = some (.int .u32 pb) := fun d' => by rw [hd]; exact (HBE.out.cell (p := ⟨b8, o8 + m * 2 + 1, none⟩) hb8).trans (hc8 1 _ rfl)
            have HD := Lib.hid hd
            have hw3 : IntKind.i64.wrap ((m : Int) + 1) = ((m + 1 : Nat) : Int) := by rw [IntKind.wrap_i64]; omega
            subst hA8
            clear hp hb8 hc8 hd hne2
            go_upto_region 21 with fail
            go_quiet (fail)
            go_wp2
            go_roundw
            case rel => exact ⟨m + 1, d + nq, by omega, by go_num, by rw [HD.out]; simp [World.drewN, Nat.add_assoc]⟩
            case measure => simp [intOf]; omega
          · have d2 : decide ((m : Int) < (ne : Int)) = false := by simp; omega
            have d2' : decide (m < ne) = false := by simp; omega
            have hba := below_drewN HB.out d
            rw [← hd] at hba
            have HTa := Lib.hid (HT.out.later hba)
            have HOa := Lib.hid (own_below HWN.out hba)
            have HBa := Lib.hid (show Below w.heap.size w wa from HB3.out.trans (hba.mono HB3.out.size))
            clear hd hba HB HBE CW
            go_wp2
            go_loopw [12] (fun s12 wr => ∃ (i Nc : Nat) (T' : Tb), i ≤ n ∧ s12 = .int .i64 i ∧ Hid (RunR (xl ++ ((whoOf xl).take i).map rlo) T') ∧ Hid (Nm T' fun x => x ∈ whoOf xl ∧ x ∉ (whoOf xl).take i) ∧ Hid (Nc ≤ 6000 + i * 200 ∧ TabAt wr S Nc xl.length t T') ∧ Hid (wr.ownsRow w2.heap.size 29 1 (.slice A3 n c3) n ((whoOf xl).map (.int .u32))) ∧ Hid (Below w.heap.size w wr)) (fun s12 _ => n - (intOf s12).toNat)
            case atStart => exact ⟨0, Nb, T, Nat.zero_le _, rfl, Lib.hid (by simpa using HRUN.out), Lib.hid (fun k x hx => ⟨(line_run HRUN.out).2 k x hx, by simp⟩), Lib.hid ⟨by have := HNB.out.1; omega, HTa.out⟩, HOa, HBa⟩
            case round =>
              obtain ⟨j, Nc, T', hj, rfl, HR6, HNM, HT6, HO6, HB6⟩ := hrel
              obtain ⟨w6, rfl⟩ : ∃ w6, w6 = wr := ⟨wr, rfl⟩
              clear HTa HOa HBa
              have HLN : Hid ((xl ++ ((whoOf xl).take j).map rlo).length ≤ 120) := Lib.hid (by rw [List.length_append, List.length_map, List.length_take]; have := HN.out; have := HNW.out; omega)
              by_cases hjl : j < n
              · have d3 : decide ((j : Int) < (n : Int)) = true := by simp; omega
                have d3' : decide (j < n) = true := by simp; omega
                obtain ⟨x, hx⟩ : ∃ x, (whoOf xl)[j]? = some x := ⟨_, List.getElem?_eq_getElem (by have := HNW.out; omega)⟩
                have hxe : (whoOf xl).getD j 0 = x := by rw [List.getD, hx]; rfl
                obtain ⟨bl, ol, hA, hbl, hcell⟩ := (IR.of_own HO6.out).index j hjl
                rw [hxe] at hcell
                subst hA
                have HXU := Lib.hid (HWO.out x (List.mem_of_getElem? hx))
                have HTK := Lib.hid (show (whoOf xl).take (j + 1) = (whoOf xl).take j ++ [x] by rw [List.take_add_one, hx]; rfl)
                have CR := Lib.hid (release_any w6 S Nc xl.length t T' x HT6.out.2 HXU.out (by have := HT6.out.1; omega) (by have := HN.out; omega))
                have hw3 : IntKind.i64.wrap ((j : Int) + 1) = ((j + 1 : Nat) : Int) := by rw [IntKind.wrap_i64]; omega
                clear hx hxe hbl
                go_wp2_with fail
                (with_reducible refine (CR.out).mono ?_)
                rintro e w7 ⟨v7, ks, T7, got, rfl, ho7, hr7, hw7, ht7, hf7⟩
                have hgl := got_len HR6.out (rel_out (inv_run HR6.out) ho7 hr7).1
                have R1 := Lib.hid (show RunR (xl ++ ((whoOf xl).take (j + 1)).map rlo) T7 by
                  rw [HTK.out, List.map_append, ← List.append_assoc]
                  exact .snoc HR6.out (by unfold StepR; rw [if_pos (by rfl)]; exact ⟨ks, got, ho7, hr7⟩))
                have R2 := Lib.hid (show Nm T7 fun x => x ∈ whoOf xl ∧ x ∉ (whoOf xl).take (j + 1) from fun k y hy => by
                  obtain ⟨⟨a, b⟩, c⟩ := nm_rel HNM.out ho7 hr7 k y hy
                  refine ⟨a, ?_⟩
                  rw [HTK.out, List.mem_append, List.mem_singleton]
                  rintro (h | h)
                  · exact b h
                  · exact c h)
                have R3 := Lib.hid (show Nc + got.length ≤ 6000 + (j + 1) * 200 ∧ TabAt w7 S (Nc + got.length) xl.length t T7 from ⟨by have := HLN.out; have := HT6.out.1; omega, ht7⟩)
                have R4 := Lib.hid (own_frS HO6.out hf7 HFR.out)
                have R5 := Lib.hid (show Below w.heap.size w w7 from HB6.out.trans (hf7.to_below HBS.out HB6.out.size))
                clear ho7 hr7 hw7 ht7 hf7 hgl hcell CR
                go_wp2
                go_roundw
                case rel => exact ⟨j + 1, _, T7, by omega, by go_num, R1, R2, R3, R4, R5⟩
                case measure => simp [intOf]; omega
              · have d3 : decide ((j : Int) < (n : Int)) = false := by simp; omega
                have d3' : decide (j < n) = false := by simp; omega
                have HW0 := Lib.hid (show ∀ x, T'.wt x = none from nm_none (inv_run HR6.out) (fun k x hx => by
                  obtain ⟨a, b⟩ := HNM.out k x hx
                  rw [show j = n by omega, ← HNW.out, List.take_length] at b
                  exact b a))
                have CE := Lib.hid (edges_any w6 S Nc xl.length t T' HT6.out.2 (inv_run HR6.out) (line_run HR6.out).1 (by have := HT6.out.1; omega) (by have := HN.out; omega))
                go_wp2_with fail
                (with_reducible refine (CE.out).mono ?_)
                rintro e w8 ⟨v8, fr8, rfl, he8, _, ho8, hb8⟩
                rw [show eds T' fr8 = [] from edR_none he8 HW0.out] at ho8
                obtain ⟨A8, c8, rfl⟩ : ∃ A c, v8 = .slice A 0 c := by
                  rcases ho8.2 with ⟨rfl, _⟩ | ⟨g, cap, cur, rfl, _⟩
                  · exact ⟨_, _, rfl⟩
                  · exact ⟨_, _, rfl⟩
                have HE := Lib.hid (show Below w.heap.size w w8 from HB6.out.trans (hb8.mono HB6.out.size))
                clear he8 ho8 hb8
                go_wp2
                go_ret
                exact ⟨rfl, HE.out⟩


set_option maxRecDepth 100000 in
theorem lifted (os : Os) (started : os.Started) (H : Type) (enc : TypeId × Value → H) :
    ReturnsInHanded {} Try.checked os 5 .any (Rows.lockLineSpec.pre6 enc Try.prog Try.f5 Rows.lockLineRow.domain false) (Rows.lockLineSpec.post enc Try.prog Try.f5 false true false false) := by
  refine returnsInHanded_of_change (C := Try.checked) own started (by kernel_rfl) Try.func5
    (ChangeSpec.witness6 (enc := enc) (C := Try.checked) false ⟨#[], #[.slice none 0 0], []⟩ 8 (by kernel_rfl) (by kernel_rfl) (by kernel_rfl) (by kernel_rfl)) ?_
  intro W base args ds gs before hval0 hW hcnd _
  have hval : ∀ (j : Nat) t v, Try.f5.params[j]? = some t → args[j]? = some v → Value.okWide Try.prog W .any base t v := hval0
  have hW' := hW
  obtain ⟨p, q, hA0, hV, rfl, hfz, hnd⟩ := hW
  have hA1 : DataW.TrodAll enc Try.prog W 0 (fun _ => true) true Try.f5.params.toList args.toList ds p := hA0
  have hA := hA1
  rw [Try.params5] at hA hval
  obtain ⟨v0, vs0, d0, ds0, p0, q0, hargs, rfl, rfl, h0, r0⟩ := trodAll_cons hA
  obtain ⟨rfl, rfl, rfl⟩ := trodAll_nil r0
  obtain rfl : args = #[v0] := by cases args; simp_all
  obtain ⟨rfl, rfl⟩ := trodVars_none hV
  obtain ⟨xl, i0, wf0⟩ := Lock.open_los (hval 0 22 v0 rfl rfl) h0
  clear hA0 hval0
  refine (walk W v0 xl i0 wf0).mono fun e W' ⟨he, bel⟩ => ?_
  subst he
  exact ⟨_, rfl, _, _, _, [], _, [], hW', trodAll_mk1 (shut_bool Try.underlying4 _), args_again laidOut bel (by kernel_rfl) hA1, rfl, bel.frame _, fun h => by cases h⟩

theorem over : Rows.lockLineRow.holds Try.pinned (OpenSpec.ofChange Rows.lockLineSpec) :=
  OpenClaim.holds_of_wide 5 Try.f5 rfl rfl rfl rfl rfl rfl rfl ⟨rfl, rfl, rfl, rfl, rfl⟩ rfl rfl rfl rfl rfl (by kernel_rfl) Try.func5 (by kernel_rfl)
    (of_decide_eq_true (by kernel_rfl)) (by unfold Func.isWrapper; first | (rw [if_pos (by decide +kernel)]; kernel_rfl) | (rw [if_neg (by decide +kernel)]; exact ⟨rfl, rfl⟩))
    (fun os started H enc _ => lifted os started H enc)

theorem proved : Rows.LockLineSaid := over
end Go.Proofs.Ytpndcpmfcajmdaa.LLockLine
