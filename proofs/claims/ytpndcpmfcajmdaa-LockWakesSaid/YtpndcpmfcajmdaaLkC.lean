import Derived.Test.YtpndcpmfcajmdaaLkC0
import Derived.Shelf.SlSortCmp.NoneTotal
/- Rows of keys are sorted: the call. -/
namespace Go.Proofs.Ytpndcpmfcajmdaa.Lock
open Go.ChangeShapes Go.WideShapes Go.ChangeAt Go.RowKit Go.IntWalk Go.Proofs.Mem Law Go.Proofs.Each
set_option linter.unusedVariables false
set_option linter.unusedSimpArgs false
set_option maxRecDepth 100000 in
set_option maxHeartbeats 4000000 in
theorem sorted_any (w : World) (v : Value) (ks : List Ky) (base : Nat) (hlen : ks.length ≤ 100000) (ho : w.ownsRow base 81 3 v ks.length (ks.flatMap cKy)) :
    Calls Try.prog 50 #[v] w fun e w' => e = .returned v ∧ ∃ ks', SS cKy 3 w' w'.heap.size v ks' ∧ ks'.Perm ks ∧ ks'.Pairwise (fun x y => ¬ klt y x) ∧ Fr (fun x => v.ownBlock = some x) w w' := by
  have ho' := ho
  rcases ho.2 with ⟨rfl, hn⟩ | ⟨g, cap, cur, rfl, hg, hh, hnc, hm, _, _⟩
  · have hk : ks = [] := List.eq_nil_of_length_eq_zero hn
    have hcon := AnyF.slices_SortFunc_none layN none 0 (.func (.func 59) #[] #[]) w
    change Calls Try.prog 58 _ _ _ at hcon
    subst hk
    have HC := Lib.hid hcon
    clear ho ho' hcon
    go_enter Try.func50, Try.ntmps50
    go_wp2_with (go_at_call 58; (with_reducible refine HC.out.mono ?_); rintro e w' ⟨rfl, rfl⟩)
    go_ret
    exact ⟨rfl, [], SS.nil _ _, List.Perm.refl _, List.Pairwise.nil, Fr.refl _ _⟩
  · have hlt := (ho'.lt g rfl).2
    have eg : ∀ args w, (callFunc 59 args).run Try.prog w = .ok (.enter 59 args) w := enters_of Try.func59 (by kernel_rfl) rfl
    have hH := holdsK_own ho'
    have hsz : ks.toArray.size = ks.length := by simp
    have hcon := AnyQ.slices_SortFunc layN 3 Try.isAgg81 Try.sizeOf81 cKy cKy_len cKy_one cmpK klt_swo 59 #[] g 0 cap ks.toArray w eg (cmpLaysK _ _ _ _) hH hlt (by rw [hsz]; omega)
    change Calls Try.prog 58 _ _ _ at hcon
    rw [hsz] at hcon
    have HO : ∀ (d' : Array Ky) (n : Nat) (os : Array Obj), Sort.PermIn 0 ks.length ks.toArray d' → Sort.SortedIn (ltOf cmpK) 0 ks.length d' → ∃ ks', SS cKy 3 (sortWorldK cKy 3 w g 0 n d' os) (sortWorldK cKy 3 w g 0 n d' os).heap.size (.slice (some ⟨g, 0, none⟩) ks.length cap) ks' ∧ ks'.Perm ks ∧ ks'.Pairwise (fun x y => ¬ klt y x) ∧ Fr (fun x => (Value.slice (some ⟨g, 0, none⟩) ks.length cap).ownBlock = some x) w (sortWorldK cKy 3 w g 0 n d' os) := fun d' n os hp hs => by
      have hds : d'.size = ks.length := by rw [hp.1, hsz]
      have hfr := sortWorld_fr w g n d' os
      refine ⟨d'.toList, ?_, ?_, ?_, hfr.mono (fun k _ h => by rw [h]; rfl)⟩
      · refine ss_holds ?_ hds (Nat.lt_of_lt_of_le hlt hfr.size) hnc hm
        unfold sortWorldK
        have h1 := Sort.holdsK_putRowK cKy 3 (Sort.ahead w n) g 0 ks.toArray d' (Sort.holdsK_ahead cKy 3 w n g 0 _ hH) (by rw [hds, hsz])
        exact Sort.holdsK_grow cKy 3 _ os g 0 d' (by simpa [Sort.putRowK, Sort.putRow, Sort.mapBlock, Sort.ahead] using hlt) h1
      · have h1 := hp.2.2
        have e1 : d'.extract 0 ks.length = d' := by rw [← hds]; simp
        have e2 : ks.toArray.extract 0 ks.length = ks.toArray := by rw [← hsz]; simp
        rw [e1, e2] at h1
        simpa using h1
      · rw [List.pairwise_iff_getElem]
        intro i j hi hj hij
        have hi' : i < d'.size := by simpa using hi
        have hj' : j < d'.size := by simpa using hj
        have h1 := hs i j (Nat.zero_le _) hij (by rw [← hds]; exact hj')
        rw [klt_ltOf, getElem!_pos d' i hi', getElem!_pos d' j hj'] at h1
        simpa using h1
    have HC := Lib.hid hcon
    have HOO := Lib.hid HO
    generalize ks.length = N at HC HOO hnc ⊢
    clear ho ho' hcon HO hH hsz eg hlt hh hg hnc hm
    go_enter Try.func50, Try.ntmps50
    go_wp2_with (go_at_call 58; (with_reducible refine HC.out.mono ?_); rintro e w' ⟨rfl, d', n, os, hp, hs, rfl⟩)
    go_ret
    exact ⟨rfl, HOO.out d' n os hp hs⟩
end Go.Proofs.Ytpndcpmfcajmdaa.Lock
