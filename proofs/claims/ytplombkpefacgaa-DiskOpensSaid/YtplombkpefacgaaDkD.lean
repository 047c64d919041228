import Derived.Test.YtplombkpefacgaaDkC
/- fates. -/
namespace Go.Proofs.Ytplombkpefacgaa.Disk
open Go.ChangeShapes Go.WideShapes Go.ChangeAt Go.RowKit Go.IntWalk Go.Proofs.Mem Law
set_option linter.unusedVariables false
set_option linter.unusedSimpArgs false
set_option maxRecDepth 100000 in
set_option maxHeartbeats 8000000 in
theorem fates_any (w : World) (v : Value) (l : List Ft) (hv : SS cFt 4 w w.heap.size v l) (ho : ∀ x ∈ l, x.Ok) (hl : l.length ≤ 100000) :
    Calls Try.prog 45 #[v] w fun e w' => ∃ q m, e = .returned (.func (.func 53) #[] #[.pointer (some ⟨q, 0, none⟩)]) ∧ Box w' q #[.map (some m)] 88 ∧ MapAt w' m l ∧ (w.heap.size ≤ q ∧ w.heap.size ≤ m) ∧ Below w.heap.size w w' := by
  have hmf : ∀ (fn : Fn) (first cap : Array Value) (w : World), (Instr.makeFunc fn first cap).run Try.prog w = .ok (.func fn first cap) w := fun _ _ _ _ => rfl
  have hmm : ∀ W : World, (Instr.makeMap 88 none).run Try.prog W = .ok (.map (some W.heap.size)) (W.alloc (.map #[] 0)) := fun W => run_makeMap _ W
  obtain ⟨A, c, rfl, hlc, hcm⟩ := hv.form
  unfold maxLen at hcm
  obtain ⟨L, hL⟩ : ∃ L, L = l.length := ⟨_, rfl⟩
  rw [← hL] at hv hlc hl ⊢
  have HL := Lib.hid hL
  have HV := Lib.hid hv
  have HO := Lib.hid ho
  have M0 := Lib.hid (MapAt.made w)
  have W0 := Lib.hid (new_ (new_ (Below.refl w.heap.size w) (.map #[] 0)) (.cells #[.map (some w.heap.size)] 88))
  have B0 := Lib.hid (Box.new (w.alloc (.map #[] 0)) #[.map (some w.heap.size)] 88)
  clear hv ho hL
  go_enter Try.func45, Try.ntmps45
  go_wp2
  go_loopw [12] (fun x wr => ∃ j : Nat, j ≤ L ∧ x = .int .i64 j ∧ Hid (Box wr (w.heap.size + 1) #[.map (some w.heap.size)] 88 ∧ MapAt wr w.heap.size (l.take j)) ∧ Below w.heap.size w wr) (fun x _ => L - (intOf x).toNat)
  case atStart =>
    refine ⟨0, Nat.zero_le _, rfl, Lib.hid ⟨?_, ?_⟩, W0.out⟩
    · have := B0.out; rw [World.size_alloc] at this; exact this
    · rw [List.take_zero]; exact M0.out.later (new_ (Below.refl _ _) _)
  case round =>
    obtain ⟨j, hj, rfl, HI, hbel⟩ := hrel
    have HB := Lib.hid hbel
    by_cases hlt : j < L
    · have hjl : j < l.length := by rw [← HL.out]; exact hlt
      obtain ⟨x, hx⟩ : ∃ x, x = l[j] := ⟨_, rfl⟩
      have hok : x.Ok := by rw [hx]; exact HO.out _ (List.getElem_mem _)
      have hxe : l[j]? = some x := by rw [hx]; exact List.getElem?_eq_getElem hjl
      obtain ⟨b, off, eA, hb, hcell⟩ := (HV.out.below hbel).at_ hxe
      subst eA
      have k0 : wr.cell? ⟨b, off + j * 4, none⟩ = some (.int .u8 x.file) := hcell 0 _ rfl
      have k1 : wr.cell? ⟨b, off + j * 4 + 1, none⟩ = some (.int .i64 x.sec) := hcell 1 _ rfl
      have k2 : wr.cell? ⟨b, off + j * 4 + 2, none⟩ = some (.int .i64 x.keep) := hcell 2 _ rfl
      have k3 : wr.cell? ⟨b, off + j * 4 + 3, none⟩ = some (.int .i64 x.torn) := hcell 3 _ rfl
      have dj : decide ((j : Int) < (L : Int)) = true := by simp; omega
      obtain ⟨O5, hO5⟩ : ∃ O : Obj, O = .cells #[.int .u8 x.file, .int .i64 x.sec, .int .i64 x.keep, .int .i64 x.torn] 50 := ⟨_, rfl⟩
      obtain ⟨O6, hO6⟩ : ∃ O : Obj, O = .cells #[.int .u8 x.file, .int .i64 x.sec] 90 := ⟨_, rfl⟩
      have hb2 : Below wr.heap.size wr ((wr.alloc O5).alloc O6) := new_ (new_ (Below.refl _ _) _) _
      have hlk := ((HI.out.2.later hb2).look x.file x.sec hok.1 hok.2).2
      obtain ⟨y, hy⟩ : ∃ y, y = fateAt (l.take j) x.file x.sec := ⟨_, rfl⟩
      obtain ⟨qs, hqs⟩ : ∃ q, q = ((l.take j).find? (hits x.file x.sec)).isSome := ⟨_, rfl⟩
      rw [← hy, ← hqs] at hlk
      unfold pk at hlk
      have kq : ((wr.alloc O5).alloc O6).cell? ⟨w.heap.size + 1, 0, none⟩ = some (.map (some w.heap.size)) := (HI.out.1.later hb2).cell 0
      have e1 : l.take j ++ [x] = l.take (j + 1) := by rw [List.take_succ_eq_append_getElem hjl, hx]
      have HX := Lib.hid hx
      have E1 := Lib.hid e1
      have HQ := Lib.hid hqs
      have HOK := Lib.hid hok
      obtain ⟨O7, hO7⟩ : ∃ O : Obj, O = .cells #[.int .u8 y.file, .int .i64 y.sec, .int .i64 y.keep, .int .i64 y.torn] 50 := ⟨_, rfl⟩
      have hb3 : Below wr.heap.size wr (((wr.alloc O5).alloc O6).alloc O7) := new_ hb2 _
      have M3 := HI.out.2.later hb3
      have X3 := HI.out.1.later hb3
      have kq3 := X3.cell 0
      have k53 : ∀ i, (((wr.alloc O5).alloc O6).alloc O7).cell? ⟨wr.heap.size, i, none⟩ = (#[.int .u8 x.file, .int .i64 x.sec, .int .i64 x.keep, .int .i64 x.torn] : Array Value)[i]? := fun i => by
        have h9 := Box.new wr #[.int .u8 x.file, .int .i64 x.sec, .int .i64 x.keep, .int .i64 x.torn] 50
        rw [← hO5] at h9
        exact ((h9.alloc O6).alloc O7).cell i
      have k63 : ∀ i, (((wr.alloc O5).alloc O6).alloc O7).cell? ⟨wr.heap.size + 1, i, none⟩ = (#[.int .u8 x.file, .int .i64 x.sec] : Array Value)[i]? := fun i => by
        have h9 := Box.new (wr.alloc O5) #[.int .u8 x.file, .int .i64 x.sec] 90
        rw [← hO6, World.size_alloc] at h9
        exact (h9.alloc O7).cell i
      have HB3 := Lib.hid (HB.out.trans (hb3.mono HB.out.size))
      cases qs
      case true =>
        have hfin := M3.same (x := x) (by rw [← HQ.out])
        rw [E1.out] at hfin
        have HF := Lib.hid hfin
        have HX3 := Lib.hid X3
        rw [hO5, hO6] at hlk kq
        rw [hO5, hO6, hO7] at HF HX3 HB3
        clear hcell hb2 hb3 M3 X3 kq3 k53 k63 hfin hx hqs hy e1 hok hxe hbel HI hO5 hO6 hO7
        go_wp2
        go_roundw
        case rel => exact ⟨j + 1, by omega, by go_num, Lib.hid ⟨HX3.out, HF.out⟩, HB3.out⟩
        case measure => simp [intOf]; omega
      case false =>
        obtain ⟨w4, hrun, hm4, hg4⟩ := M3.put HOK.out (by rw [List.length_take]; omega) (by rw [← HQ.out])
        rw [E1.out] at hm4
        have hx4 := X3.grown hg4 (by intro e; injection e with e; omega)
        have hb4 := HB3.out.trans ((Below.refl w.heap.size (((wr.alloc O5).alloc O6).alloc O7)).grown hg4 HB3.out.size (fun b hb => by injection hb with hb; omega))
        have HM4 := Lib.hid hm4
        have HX4 := Lib.hid hx4
        have HB4 := Lib.hid hb4
        unfold pk at hrun
        rw [hO5, hO6] at hlk kq
        rw [hO5, hO6, hO7] at hrun kq3 k53 k63
        clear hcell hb2 hb3 M3 X3 hm4 hx4 hb4 hg4 hx hqs hy e1 hok hxe hbel HI hO5 hO6 hO7 HB3
        go_wp2
        go_roundw
        case rel => exact ⟨j + 1, by omega, by go_num, Lib.hid ⟨HX4.out, HM4.out⟩, HB4.out⟩
        case measure => simp [intOf]; omega
    · have hjL : j = L := by omega
      have dj : decide ((j : Int) < (L : Int)) = false := by simp; omega
      have hfin : MapAt wr w.heap.size l := by have := HI.out.2; rw [hjL, HL.out, List.take_length] at this; exact this
      have HF := Lib.hid hfin
      clear hbel hjL hfin
      go_wp2
      go_ret
      exact ⟨_, _, rfl, HI.out.1, HF.out, ⟨Nat.le_succ _, Nat.le_refl _⟩, HB.out⟩
end Go.Proofs.Ytplombkpefacgaa.Disk
