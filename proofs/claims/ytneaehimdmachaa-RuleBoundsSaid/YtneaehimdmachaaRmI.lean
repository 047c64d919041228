import Derived.Test.YtneaehimdmachaaRm7
namespace Go.Proofs.Ytneaehimdmachaa.Rule
open Go.ChangeShapes Go.WideShapes Go.ChangeAt Go.RowKit Go.IntWalk Go.Proofs.Mem Go.Proofs.Each
set_option linter.unusedVariables false
set_option linter.unusedSimpArgs false
set_option linter.unnecessarySimpa false
theorem pile_lt {ts : List Th} {k : Nat} {t : Th} (h : ts[k]? = some t) : k * 6 < (pileC ts).size := by
  rw [pileC_size]; have := (List.getElem?_eq_some_iff.1 h).1; omega
theorem less_ok {xs ms : List Int} {f : Int → Int} {n : Nat} (hl : ms.length = xs.length) (hn : xs.length ≤ n) (hm : ∀ (t : Nat) a, ms[t]? = some a → 0 ≤ a ∧ a ≤ 18446744073709551615) (hf : ∀ x, 0 ≤ f x ∧ f x ≤ 18446744073709551615) (hs : ∀ (t : Nat) x a, xs[t]? = some x → ms[t]? = some a → Ls a (f x)) {t : Nat} {b : Int} (h : (chg (fun x a => a - f x) n xs ms)[t]? = some b) : 0 ≤ b ∧ b ≤ 18446744073709551615 := by
  induction n generalizing xs ms t with
  | zero => rw [chg_zero] at h; exact hm t b h
  | succ n ih =>
    match xs, ms, t, h with
    | [], ms, t, h => exact hm t b (by cases ms <;> simpa [chg] using h)
    | x :: xs, [], t, h => simp [chg] at h
    | x :: xs, a :: ms, 0, h =>
      have e : a - f x = b := by simpa [chg] using h
      have h1 := hs 0 x a rfl rfl
      have h2 := hm 0 a rfl
      have h3 := hf x
      have := h1.2
      omega
    | x :: xs, a :: ms, t + 1, h => exact ih (by simpa using hl) (by simpa using hn) (fun t a h => hm (t + 1) a (by simpa using h)) (fun t y b h1 h2 => hs (t + 1) y b (by simpa using h1) (by simpa using h2)) (by simpa [chg] using h)
theorem craft_ok {seen : List Ce} {cs : List Ce} {j : Nat} (h : ∀ c ∈ seen, c.Ok) (hs : ∀ (t : Nat) c, cs[t]? = some c → seen[j + t]? = some c) {t : Nat} {a : Int} (ha : (cs.map Ce.vA)[t]? = some a) : 0 ≤ a ∧ a ≤ 18446744073709551615 := by
  rw [List.getElem?_map] at ha
  cases hc : cs[t]? with
  | none => rw [hc] at ha; cases ha
  | some c =>
    rw [hc] at ha
    have e : c.vA = a := by simpa using ha
    rw [← e]; exact vA_ok h (hs t c hc)
def L1 (w : World) (g : Nat) (q : Ot) (v : Value) (base : Nat) (p : Value) (l : List Pu) (seen : List Ce) (i : Nat) (xs : List Int) (B0 : List Bx) (k : Nat) (u : Value) (W : World) : Prop :=
  ∃ cs : List Ce, cs.length = k ∧ (∀ (t : Nat) c, cs[t]? = some c → seen[i + 1 + t]? = some c) ∧ ((k = 0 ∧ u = .slice none 0 0 ∧ ST w g q v base p (i + 1) p l B0 W) ∨ (∃ gk cap, u = .slice (some ⟨gk, 0, none⟩) k cap ∧ ST w g q v base p (i + 1 + k) p l (.pile gk k cap (pileC (ths q.wh xs cs (cs.map Ce.vA))) :: B0) W))
theorem pile_one {wh x : Int} {xs : List Int} {c : Ce} (h : xs[0]? = some x) : pileC (ths wh xs [c] ([c].map Ce.vA)) = #[.int .u64 c.vA, .int .u64 c.vB, .int .u8 3, .int .u32 wh, .int .u32 x, .bool c.is] := by
  cases xs with
  | nil => simp at h
  | cons y r =>
    have e : y = x := by simpa using h
    subst e
    cases r <;> rfl
theorem row_cur {cur : Array Value} {n : Nat} {xs : List Int} (ht : cur.toList.take n = xs.map (.int .u32)) (hl : xs.length = n) {i : Nat} {x : Int} (hx : xs[i]? = some x) : cur[i]? = some (.int .u32 x) := by
  have hi : i < xs.length := (List.getElem?_eq_some_iff.1 hx).1
  have h2 : (xs.map (Value.int .u32))[i]? = some (.int .u32 x) := by simp [hx]
  rw [← ht, List.getElem?_take, if_pos (by omega)] at h2
  simpa using h2
theorem craft_two (id : Int) (h : 1 ≤ id ∧ id ≤ 6) : 2 ≤ (craftItems id).length ∧ (craftItems id).length ≤ 4 := by
  have : id = 1 ∨ id = 2 ∨ id = 3 ∨ id = 4 ∨ id = 5 ∨ id = 6 := by omega
  rcases this with rfl | rfl | rfl | rfl | rfl | rfl <;> decide
theorem craft_lens (id n : Int) (h : Stk.errN id n = 0) : (Stk.inN id n).map (·.1) ++ (Stk.outN id n).map (·.1) = rawItems id ∧ (0 < (Stk.inN id n).length ∧ (Stk.inN id n).length ≤ 6) ∧ (0 < (Stk.outN id n).length ∧ (Stk.outN id n).length ≤ 6) ∧ 1 ≤ id ∧ id ≤ 6 := by
  have h6 : 1 ≤ id ∧ id ≤ 6 := by
    unfold Stk.errN Stk.isS at h
    by_cases e : 1 ≤ id ∧ id ≤ 6
    · exact e
    · rw [decide_eq_false e] at h; simp at h
  have e1 : Stk.inN id n = Stk.times n (Stk.lineS id).1 := by unfold Stk.inN; rw [if_pos h]
  have e2 : Stk.outN id n = Stk.times n (Stk.lineS id).2 := by unfold Stk.outN; rw [if_pos h]
  rw [e1, e2, times_fst, times_fst, Stk.times_len, Stk.times_len]
  refine ⟨by unfold rawItems; rw [List.map_append], ?_, ?_, h6⟩
  all_goals
    have : id = 1 ∨ id = 2 ∨ id = 3 ∨ id = 4 ∨ id = 5 ∨ id = 6 := by omega
    rcases this with rfl | rfl | rfl | rfl | rfl | rfl <;> decide
set_option maxRecDepth 100000 in
set_option maxHeartbeats 8000000 in
theorem craft_bad (w : World) (g : Nat) (q : Ot) (v : Value) (base i : Nat) (p : Value) (l : List Pu) (seen : List Ce) (hst : St w g q v base i p l) (hs : SeenAt w g v seen) (hg : g < base) (hbase : base ≤ w.heap.size) (hl : l.length ≤ 700) (hi : i ≤ 700000) (hq : q.Ok) (hok : ∀ c ∈ seen, c.Ok) (he : Stk.errN q.wt q.n ≠ 0) :
    Calls Try.prog 42 #[.pointer (some ⟨g, 0, none⟩)] w (Did w g q v base i p l seen (oCraft q) Rp.enc) := by
  have BEG := Lib.hid (Begin.mk hs hg hbase hq hok (fun x hx => hst.own.lt x hx))
  obtain ⟨W0, hW0⟩ : ∃ W0, w.alloc (.cells #[.int .u16 0, .int .u64 0, .int .u64 0, .int .u64 0] 41) = W0 := ⟨_, rfl⟩
  have SS : Hid (ST w g q v base p i p l [.box w.heap.size #[.int .u16 0, .int .u64 0, .int .u64 0, .int .u64 0] 41] W0) := Lib.hid (by rw [← hW0]; exact ST.start hst BEG.out _ _)
  have HI := Lib.hid hi
  have HQ := Lib.hid hq
  have HOK := Lib.hid hok
  have HL := Lib.hid hl
  have HE := Lib.hid he
  obtain ⟨ce0, hce0⟩ := the_cell seen (i)
  have CE0 := Lib.hid hce0
  clear hst hs hg hbase hl hi hq hok he hce0
  go_enter Try.func42, Try.ntmps42
  go_upto_region 1 with fail
  try rw [hW0]
  clear hW0
  have NEED := Lib.hid (fun W (hz : W0.heap.size ≤ W.heap.size) => needs_b q.wt q.n HQ.out.n W)
  refine wp_SN 77 (by decide) 10 11 12 14 15 (Stk.errN q.wt q.n) Xb [pw g 0, pw g 0, pw g 0, pw g 3, some (.int .u32 q.wt, True), pw g 0, pw g 0, pw g 0, pw g 5, some (.int .u64 q.n, True), none, none, none, some (.int .u16 (Stk.errN q.wt q.n), True), none, none, some (.int .u16 (Stk.errN q.wt q.n), True)] SS.out BEG.out (fun _ _ _ _ h => h) (fun _ _ _ _ _ _ _ h => h) (fun vals => ?_) (fun vals W1 gb u1 u2 hS fa hgb bx hX hall => ?_) (ea 14 rfl) ⟨rfl, rfl, rfl, rfl, rfl⟩
  · simp only [ObD, Act.put, List.setIfInBounds_toArray, List.set_cons_succ, List.set_cons_zero]
    refine ⟨?_, ?_, ?_, ?_, ?_, ?_, ?_, ?_, ?_, ?_, ?n10, ?n11, ?n12, ?n13, ?n14, ?n15, ?_, trivial⟩
    all_goals (intro L W hL hk hC hw; have f := depsN hw ⟨rfl, rfl, rfl, rfl, rfl⟩; simp only [depF, vsP, pw, List.getD_cons_succ, List.getD_cons_zero, and_true, true_and] at f)
    case n10 => have CL := Lib.hid (NEED.out W hC.2); clear hL hC hk hw; refine step_plainD rfl ?_; go_simp; (with_reducible refine CL.out.mono ?_); rintro e w8 ⟨u, rfl, hx, h2⟩; first | exact ⟨rn_b (by decide) h2, fn_k (by decide) (by decide) (.inl rfl) hx⟩ | exact ⟨_, rfl, ⟨rn_b (by decide) h2, fn_k (by decide) (by decide) (.inl rfl) hx⟩⟩
    case n11 => obtain ⟨u, fu, hx⟩ := fn_gk (hw ⟨10, .data⟩ (by simp) rfl) (by decide) (by decide) (.inl rfl); have HX := Lib.hid hx; clear hx; clear hL hC hk hw; refine step_plainD rfl ?_; go_simp; first | exact ⟨rn_same (by decide), fn_k (by decide) (by decide) (.inr rfl) HX.out⟩ | exact ⟨_, rfl, ⟨rn_same (by decide), fn_k (by decide) (by decide) (.inr rfl) HX.out⟩⟩
    case n12 => obtain ⟨u, fu, hx⟩ := fn_gk (hw ⟨11, .data⟩ (by simp) rfl) (by decide) (by decide) (.inr rfl); have HX := Lib.hid hx; clear hx; clear hL hC hk hw; refine step_plainD rfl ?_; go_simp; first | exact ⟨rn_same (by decide), fn_x (by decide) (by decide) (by decide) HX.out⟩ | exact ⟨_, rfl, ⟨rn_same (by decide), fn_x (by decide) (by decide) (by decide) HX.out⟩⟩
    case n13 => obtain ⟨u, fu, hx⟩ := fn_gk (hw ⟨11, .data⟩ (by simp) rfl) (by decide) (by decide) (.inr rfl); clear hx; clear hL hC hk hw; refine step_plainD rfl ?_; go_simp; first | exact pn rfl ⟨rfl, trivial⟩ | exact ⟨_, rfl, pn rfl ⟨rfl, trivial⟩⟩
    case n14 => have ZZ := hC.2; clear hL hC hk hw; refine step_plainD rfl ?_; go_simp; first | exact fn_a ZZ | exact ⟨_, rfl, fn_a ZZ⟩
    case n15 => obtain ⟨gb, u1, u2, fa, hgb, bx⟩ := fn_ga (hw ⟨14, .data⟩ (by simp) rfl) (by decide); have hx := fn_gx (hw ⟨12, .data⟩ (by simp) rfl) (by decide) (by decide) (by decide); obtain ⟨A1, n1, c1, A2, n2, c2, fv⟩ := id hx; rw [fv] at hx; have q0 := bx.cell 0; have q1 := bx.cell 1; simp only [List.getElem?_toArray, List.getElem?_cons_zero, List.getElem?_cons_succ] at q0 q1; have r0 := bx.frozen 0; have r1 := bx.frozen 1; have HX := Lib.hid hx; have BXX := Lib.hid bx; have FA := Lib.hid fa; clear hx bx; clear hL hC hk hw; refine step_plainD rfl ?_; go_simp; exact fn_s (fun _ _ _ _ _ _ _ h => h) BXX.out hgb FA.out HX.out
    all_goals (have c := st7 hC.1; clear hL hC hk hw; refine step_plainD rfl ?_; go_simp; first | exact pn rfl ⟨rfl, trivial⟩ | exact ⟨_, rfl, pn rfl ⟨rfl, trivial⟩⟩)
  simp only [allF, vsP, pw, true_and, and_true, Nat.reduceAdd] at hall
  simp only [TL, Act.put, List.setIfInBounds_toArray, List.set_cons_succ, List.set_cons_zero, hall, fa]
  clear hall fa
  generalize vals 10 = z10
  generalize vals 11 = z11
  generalize vals 12 = z12
  have LOW := Lib.hid (hS.low BEG.out)
  have dk : (Stk.errN q.wt q.n == 0) = false := by simpa using HE.out
  have dk2 : (Stk.errN q.wt q.n != 0) = true := by simpa using HE.out
  clear hS hgb bx hX vals SS NEED
  go_wp2_with fail
  (with_reducible refine (deny_yes _ _).mono ?_)
  rintro e W2 ⟨rfl, rfl⟩
  exact ⟨rfl, Did.err (by unfold oCraft; simp only [runOm_bind, decide_eq_true HE.out, run_deny_yes]) LOW.out⟩
set_option maxRecDepth 100000 in
set_option maxHeartbeats 8000000 in
theorem craft_good (w : World) (g : Nat) (q : Ot) (v : Value) (base i : Nat) (p : Value) (l : List Pu) (seen : List Ce) (hst : St w g q v base i p l) (hs : SeenAt w g v seen) (hg : g < base) (hbase : base ≤ w.heap.size) (hl : l.length ≤ 700) (hi : i ≤ 700000) (hq : q.Ok) (hok : ∀ c ∈ seen, c.Ok) (he : Stk.errN q.wt q.n = 0) :
    Calls Try.prog 42 #[.pointer (some ⟨g, 0, none⟩)] w (Did w g q v base i p l seen (oCraft q) Rp.enc) := by
  have BEG := Lib.hid (Begin.mk hs hg hbase hq hok (fun x hx => hst.own.lt x hx))
  obtain ⟨W0, hW0⟩ : ∃ W0, w.alloc (.cells #[.int .u16 0, .int .u64 0, .int .u64 0, .int .u64 0] 41) = W0 := ⟨_, rfl⟩
  have SS : Hid (ST w g q v base p i p l [.box w.heap.size #[.int .u16 0, .int .u64 0, .int .u64 0, .int .u64 0] 41] W0) := Lib.hid (by rw [← hW0]; exact ST.start hst BEG.out _ _)
  have HI := Lib.hid hi
  have HQ := Lib.hid hq
  have HOK := Lib.hid hok
  have HL := Lib.hid hl
  have HE := Lib.hid he
  obtain ⟨ce0, hce0⟩ := the_cell seen (i)
  have CE0 := Lib.hid hce0
  clear hst hs hg hbase hl hi hq hok he hce0
  go_enter Try.func42, Try.ntmps42
  go_upto_region 1 with fail
  try rw [hW0]
  clear hW0
  have NEED := Lib.hid (fun W (hz : W0.heap.size ≤ W.heap.size) => needs_g q.wt q.n HE.out W0.heap.size W hz)
  have LEN := Lib.hid (craft_lens q.wt q.n HE.out)
  refine wp_SN 77 (by decide) 10 11 12 14 15 0 (Xg W0.heap.size (Stk.inN q.wt q.n).length (Stk.outN q.wt q.n).length (Stk.inN q.wt q.n) (Stk.outN q.wt q.n)) [pw g 0, pw g 0, pw g 0, pw g 3, some (.int .u32 q.wt, True), pw g 0, pw g 0, pw g 0, pw g 5, some (.int .u64 q.n, True), none, none, none, some (.int .u16 0, True), none, none, some (.int .u16 0, True)] SS.out BEG.out (fun _ _ _ hb h => h.later hb) (fun _ _ _ _ _ hx hf h => h.fr hx hf) (fun vals => ?_) (fun vals W1 gb u1 u2 hS fa hgb bx hX hall => ?_) (ea 14 rfl) ⟨rfl, rfl, rfl, rfl, rfl⟩
  · simp only [ObD, Act.put, List.setIfInBounds_toArray, List.set_cons_succ, List.set_cons_zero]
    refine ⟨?_, ?_, ?_, ?_, ?_, ?_, ?_, ?_, ?_, ?_, ?n10, ?n11, ?n12, ?n13, ?n14, ?n15, ?_, trivial⟩
    all_goals (intro L W hL hk hC hw; have f := depsN hw ⟨rfl, rfl, rfl, rfl, rfl⟩; simp only [depF, vsP, pw, List.getD_cons_succ, List.getD_cons_zero, and_true, true_and] at f)
    case n10 => have CL := Lib.hid (NEED.out W hC.2); clear hL hC hk hw; refine step_plainD rfl ?_; go_simp; (with_reducible refine CL.out.mono ?_); rintro e w8 ⟨u, rfl, hx, h2⟩; first | exact ⟨rn_b (by decide) h2, fn_k (by decide) (by decide) (.inl rfl) hx⟩ | exact ⟨_, rfl, ⟨rn_b (by decide) h2, fn_k (by decide) (by decide) (.inl rfl) hx⟩⟩
    case n11 => obtain ⟨u, fu, hx⟩ := fn_gk (hw ⟨10, .data⟩ (by simp) rfl) (by decide) (by decide) (.inl rfl); have HX := Lib.hid hx; clear hx; clear hL hC hk hw; refine step_plainD rfl ?_; go_simp; first | exact ⟨rn_same (by decide), fn_k (by decide) (by decide) (.inr rfl) HX.out⟩ | exact ⟨_, rfl, ⟨rn_same (by decide), fn_k (by decide) (by decide) (.inr rfl) HX.out⟩⟩
    case n12 => obtain ⟨u, fu, hx⟩ := fn_gk (hw ⟨11, .data⟩ (by simp) rfl) (by decide) (by decide) (.inr rfl); have HX := Lib.hid hx; clear hx; clear hL hC hk hw; refine step_plainD rfl ?_; go_simp; first | exact ⟨rn_same (by decide), fn_x (by decide) (by decide) (by decide) HX.out⟩ | exact ⟨_, rfl, ⟨rn_same (by decide), fn_x (by decide) (by decide) (by decide) HX.out⟩⟩
    case n13 => obtain ⟨u, fu, hx⟩ := fn_gk (hw ⟨11, .data⟩ (by simp) rfl) (by decide) (by decide) (.inr rfl); clear hx; clear hL hC hk hw; refine step_plainD rfl ?_; go_simp; first | exact pn rfl ⟨rfl, trivial⟩ | exact ⟨_, rfl, pn rfl ⟨rfl, trivial⟩⟩
    case n14 => have ZZ := hC.2; clear hL hC hk hw; refine step_plainD rfl ?_; go_simp; first | exact fn_a ZZ | exact ⟨_, rfl, fn_a ZZ⟩
    case n15 => obtain ⟨gb, u1, u2, fa, hgb, bx⟩ := fn_ga (hw ⟨14, .data⟩ (by simp) rfl) (by decide); have hx := fn_gx (hw ⟨12, .data⟩ (by simp) rfl) (by decide) (by decide) (by decide); obtain ⟨A1, n1, c1, A2, n2, c2, fv⟩ := Xg.b hx; rw [fv] at hx; have q0 := bx.cell 0; have q1 := bx.cell 1; simp only [List.getElem?_toArray, List.getElem?_cons_zero, List.getElem?_cons_succ] at q0 q1; have r0 := bx.frozen 0; have r1 := bx.frozen 1; have HX := Lib.hid hx; have BXX := Lib.hid bx; have FA := Lib.hid fa; clear hx bx; clear hL hC hk hw; refine step_plainD rfl ?_; go_simp; exact fn_s (fun _ _ _ _ _ hx hf h => h.fr hx hf) BXX.out hgb FA.out HX.out
    all_goals (have c := st7 hC.1; clear hL hC hk hw; refine step_plainD rfl ?_; go_simp; first | exact pn rfl ⟨rfl, trivial⟩ | exact ⟨_, rfl, pn rfl ⟨rfl, trivial⟩⟩)
  simp only [allF, vsP, pw, true_and, and_true, Nat.reduceAdd] at hall
  simp only [TL, Act.put, List.setIfInBounds_toArray, List.set_cons_succ, List.set_cons_zero, hall, fa]
  clear hall fa
  generalize vals 10 = z10
  generalize vals 11 = z11
  generalize vals 12 = z12
  obtain ⟨g1, g2, e12, hne, hg1, hg2, x1, x2⟩ := hX
  injection e12 with e12
  have e12 : u1 = .slice (some ⟨g1, 0, none⟩) (Stk.inN q.wt q.n).length (Stk.inN q.wt q.n).length ∧ u2 = .slice (some ⟨g2, 0, none⟩) (Stk.outN q.wt q.n).length (Stk.outN q.wt q.n).length := by simpa using e12
  obtain ⟨rfl, rfl⟩ := e12
  generalize hl1 : Stk.inN q.wt q.n = l1 at x1 bx LEN ⊢
  generalize hl2 : Stk.outN q.wt q.n = l2 at x2 bx LEN ⊢
  have hgl := SS.out.gl BEG.out
  have hws := SS.out.run.out.size
  have hlt0 := SS.out.lt
  have SX := (((hS.add bx (by omega) (by omega) (by decide) (fun y hy => by have := hlt0 y hy; omega)).add x1 (by omega) (by omega) (by decide) (fun y hy => by
    rcases List.mem_cons.1 hy with e | e
    · rw [e]; exact Box.ne_of bx x1 (by decide)
    · have := hlt0 y e; omega)).add x2 (by omega) (by omega) (by decide) (fun y hy => by
    rcases List.mem_cons.1 hy with e | e
    · rw [e]; exact hne
    · rcases List.mem_cons.1 e with e | e
      · rw [e]; exact Box.ne_of bx x2 (by decide)
      · have := hlt0 y e; omega))
  have HL1 := Lib.hid hl1
  have HL2 := Lib.hid hl2
  replace SS := Lib.hid SX
  clear SX hl1 hl2 hgl hws hlt0 hS hgb bx hne hg1 hg2 x1 x2 vals NEED
  go_wp2_with fail
  (with_reducible refine (deny_no _ _).mono ?_)
  rintro e W2 ⟨rfl, rfl⟩
  go_upto_region 3 with fail
  refine wp_SA (D := DP w g q v base i p l seen (oCraft q) Rp.enc) 9 10 11 (seen[i]? = some ce0 ∧ ce0.is = true) False (i + 1) l [pw g 0, pw g 0, pw g 7, pw g 0, pw g 0, pw g 0, pw g 1, some (.int .u32 q.wh, True), some (.agg #[.int .u8 1, .int .u32 q.wh, .int .u32 0], True), some (.agg (thing ce0.A ce0.B 1 q.wh 0 true), True)] SS.out (fun vals => ?_) (fun vals W2 hB hall => ?_)
  · simp only [ObD, Act.put, List.setIfInBounds_toArray, List.set_cons_succ, List.set_cons_zero]
    refine ⟨?_, ?_, ?_, ?_, ?_, ?_, ?_, ?_, ?o1_8, ?o1_9, trivial⟩
    all_goals (intro L W hL hk hC hw; have f := deps hw rfl rfl; simp only [depF, vsP, pw, List.getD_cons_succ, List.getD_cons_zero, and_true, true_and] at f)
    case o1_8 => have CL := Lib.hid (purse_any q.wh W); clear hL hC hk hw; refine step_plainD rfl ?_; go_simp; (with_reducible refine CL.out.mono ?_); rintro e w8 ⟨rfl, h2⟩; first | exact sq h2 rfl ⟨rfl, trivial⟩ | exact ⟨_, rfl, sq h2 rfl ⟨rfl, trivial⟩⟩
    case o1_9 =>
      have CL := Lib.hid (there_K SS.out (hC.pre hk) BEG.out (by have := HI.out; omega) CE0.out 1 q.wh 0); clear hL hC hk hw; refine step_plainD rfl ?_; go_simp; (with_reducible refine CL.out.mono ?_); rintro e w8 (⟨h, rfl, h2⟩ | ⟨h, h3, rfl, h2⟩ | ⟨rfl, hf, H⟩)
      · exact ⟨_, rfl, Did.miss (by unfold oCraft; simp only [runOm_bind, decide_eq_false (show ¬ Stk.errN q.wt q.n ≠ 0 from fun h => h HE.out), run_deny_no, run_there_no h]) h2⟩
      · exact ⟨_, rfl, Did.err (by unfold oCraft; simp only [runOm_bind, decide_eq_false (show ¬ Stk.errN q.wt q.n ≠ 0 from fun h => h HE.out), run_deny_no, run_there_not h h3]) h2⟩
      · first | exact kv hf H rfl ⟨rfl, trivial⟩ | exact ⟨_, rfl, kv hf H rfl ⟨rfl, trivial⟩⟩
    all_goals (have c := kn7 hC; clear hL hC hk hw; refine step_plainD rfl ?_; go_simp; first | exact sv rfl ⟨rfl, trivial⟩ | exact ⟨_, rfl, sv rfl ⟨rfl, trivial⟩⟩)
  have S0 := Lib.hid hB.1
  simp only [allF, vsP, pw, true_and, and_true, Nat.reduceAdd] at hall
  simp only [TL, Act.put, List.setIfInBounds_toArray, List.set_cons_succ, List.set_cons_zero, hall]
  replace SS := Lib.hid hB.st
  clear hall vals hB
  have y0 : W2.cell? ⟨gb, 0, none⟩ = some (.slice (some ⟨g1, 0, none⟩) l1.length l1.length) := SS.out.bx.2.2.1.out.cell 0
  have y1 : W2.cell? ⟨gb, 1, none⟩ = some (.slice (some ⟨g2, 0, none⟩) l2.length l2.length) := SS.out.bx.2.2.1.out.cell 1
  have CALL := Lib.hid (items_raw q.wt W2 g1 g2 l1 l2 LEN.out.1 LEN.out.2.1 LEN.out.2.2.1 LEN.out.2.2.2 (Stk.KO.reads (g := g1) (t := 104) SS.out.bx.2.1.out (by have := LEN.out.2.1; omega)) (Stk.KO.reads (g := g2) (t := 104) SS.out.bx.1.out (by have := LEN.out.2.2.1; omega)))
  unfold Stk.rv at CALL
  go_wp2_with fail
  (with_reducible refine CALL.out.mono ?_)
  rintro e W4 ⟨gg, NN, capx, rfl, hrow, hgg, hbl⟩
  have hlen := hrow.len
  obtain ⟨cur, bxr, hsz, hkc, hcm, -, htk⟩ := hrow.box
  have HCR := Lib.hid (fun (i : Nat) (x : Int) (hx : (craftItems q.wt)[i]? = some x) => row_cur htk hlen hx)
  generalize hxs : craftItems q.wt = xs at hlen HCR
  have HXS := Lib.hid hxs
  have hN : 2 ≤ NN ∧ NN ≤ 4 := by rw [← hlen, ← hxs]; exact craft_two q.wt LEN.out.2.2.2
  have SX := (SS.out.later hbl).drop.drop.drop.add bxr (by have := SS.out.gl BEG.out; omega) (by have := SS.out.run.out.size; omega) (by decide) (fun y hy => by have := SS.out.lt y (by simp at hy ⊢; simp [hy]); omega)
  have HLEN := Lib.hid hlen
  have HN := Lib.hid hN
  have hcap : NN ≤ capx := hkc
  unfold maxLen at hcm
  replace SS := Lib.hid SX
  clear SX hrow bxr hsz hkc htk hxs hlen hN hgg hbl y0 y1 CALL
  go_wp2
  go_loopw [5, 51] (fun u c wr => ∃ k : Nat, k ≤ NN ∧ c = .int .i64 k ∧ Hid (L1 w g q v base p l seen i xs [.box gg cur 22, .box w.heap.size #[.int .u16 0, .int .u64 0, .int .u64 0, .int .u64 0] 41] k u wr)) (fun _ c _ => NN - (intOf c).toNat)
  case atStart => exact ⟨0, by omega, rfl, Lib.hid ⟨[], rfl, fun t c h => by simp at h, .inl ⟨rfl, rfl, SS.out⟩⟩⟩
  case round =>
    clear SS
    obtain ⟨k, hkN, rfl, HK⟩ := hrel
    have hk4 : k ≤ 4 := by have := HN.out; omega
    by_cases hl : k < NN
    · have d1 : decide ((k : Int) < (NN : Int)) = true := by simp; omega
      obtain ⟨x, hx⟩ : ∃ x, xs[k]? = some x := ⟨_, List.getElem?_eq_getElem (by rw [HLEN.out]; exact hl)⟩
      have HXK := Lib.hid hx
      obtain ⟨ce1, hce1⟩ := the_cell seen (i + 1 + k)
      have CE1 := Lib.hid hce1
      obtain ⟨k', hk'⟩ : ∃ k', k' = k + 1 := ⟨_, rfl⟩
      have hks : (k : Int) + 1 = (k' : Int) := by omega
      have HK' := Lib.hid hk'
      obtain ⟨cs, hcl, hcs, hst⟩ := HK.out
      have HCS := Lib.hid hcs
      have HCL := Lib.hid hcl
      have MISS := Lib.hid (fun (h : seen[i + 1 + k]? = none) => (show runOm seen (oCraft q) i l = .miss 3 q.wh x by
        unfold oCraft
        simp only [runOm_bind, decide_eq_false (show ¬ Stk.errN q.wt q.n ≠ 0 from fun h => h HE.out), run_deny_no, run_there S0.out.1 S0.out.2]
        rw [HXS.out, oLooks_miss xs cs (i + 1) x (by rw [HCL.out]; exact HXK.out) HCS.out (by rw [HCL.out]; exact h)]))
      clear hcs hce1 hx hk' HK
      rcases hst with ⟨h0, rfl, hst⟩ | ⟨gp, capk, rfl, hst⟩
      · subst h0
        have HCL2 := Lib.hid (List.eq_nil_of_length_eq_zero HCL.out)
        simp only [Nat.add_zero] at CE1 MISS
        have SS := Lib.hid hst
        clear hst
        have y0 : wr.cell? ⟨gg, 0, none⟩ = some (.int .u32 x) := (SS.out.bx.1.out.cell 0).trans (HCR.out 0 x HXK.out)
        go_upto_region 9 with fail
        clear y0
        refine wp_SGN (D := DP w g q v base i p l seen (oCraft q) Rp.enc) 11 12 13 14 1 (seen[i + 1]? = some ce1) (i + 1 + 1) #[.int .u64 ce1.vA, .int .u64 ce1.vB, .int .u8 3, .int .u32 q.wh, .int .u32 x, .bool ce1.is] #[.int .u64 ce1.vA, .int .u64 ce1.vB, .int .u8 3, .int .u32 q.wh, .int .u32 x, .bool ce1.is] [some (.slice none 0 0, True), pw g 0, pw g 0, pw g 7, pw g 0, pw g 0, pw g 0, pw g 1, some (.int .u32 q.wh, True), some (.int .u32 x, True), some (.agg #[.int .u8 3, .int .u32 q.wh, .int .u32 x], True), some (.agg (thing ce1.vA ce1.vB 3 q.wh x ce1.is), True), none, none, none] SS.out BEG.out (fun vals => ?_) (fun vals W91 hB hfin htold hall => ?_) (ea 12 rfl) (ea 13 rfl)
        · simp only [ObD, Act.put, List.setIfInBounds_toArray, List.set_cons_succ, List.set_cons_zero]
          refine ⟨?_, ?_, ?_, ?_, ?_, ?_, ?_, ?_, ?_, ?_, ?o90_10, ?o90_11, ?o90_12, ?o90_13, ?o90_14, trivial⟩
          all_goals (intro L W hL hk hC hw; have f := depsG hw rfl rfl rfl; simp only [depF, vsP, pw, List.getD_cons_succ, List.getD_cons_zero, and_true, true_and] at f)
          case o90_10 => have CL := Lib.hid (stack_any q.wh x W); clear hL hC hk hw; refine step_plainD rfl ?_; go_simp; (with_reducible refine CL.out.mono ?_); rintro e w8 ⟨rfl, h2⟩; first | exact gq h2 rfl ⟨rfl, trivial⟩ | exact ⟨_, rfl, gq h2 rfl ⟨rfl, trivial⟩⟩
          case o90_11 =>
            have CL := Lib.hid (look_KG (hC.pre hk) BEG.out (by have := HI.out; omega) CE1.out 3 q.wh x); clear hL hC hk hw; refine step_plainD rfl ?_; go_simp; (with_reducible refine CL.out.mono ?_); rintro e w8 (⟨h, rfl, h2⟩ | ⟨h1, rfl, hf, H⟩)
            · exact ⟨_, rfl, Did.miss (MISS.out h) h2⟩
            · first | exact gk hf H rfl ⟨rfl, trivial⟩ | exact ⟨_, rfl, gk hf H rfl ⟨rfl, trivial⟩⟩
          case o90_12 => have ZZ := hC.fr.size; unfold thing at f; clear hL hC hk hw; refine step_plainD rfl ?_; go_simp; first | exact gm1 ZZ | exact ⟨_, rfl, gm1 ZZ⟩
          case o90_13 =>
            have GZ := hC.fr.size; have fm : vals 0 = .slice none 0 0 := (Fg.get (f := vsP (some (.slice none 0 0, True))) (hw ⟨0, .data⟩ (by simp) rfl) (by decide) (by decide) (by decide) rfl).1; obtain ⟨gb, fa, hgb, bxb⟩ := Fg.geta (hw ⟨12, .data⟩ (by simp) rfl) (by decide) (by decide); have FA := Lib.hid fa; have BXB := Lib.hid bxb; obtain ⟨i0, hi0, hz0, hz1, hz2⟩ := info_parts thing_info
            clear hL hC hk hw
            refine step_append_lies _ (by rfl) _ _ _ (by rfl) wr.heap.size 69 i0 _ 6 32 Try.underlying80 hi0 hz0 hz1 hz2 rfl (by omega) (.slice none 0 0) 0 _ (Eq.trans (by rfl) fm) (World.ownsRow_nil W _ _ 6) ⟨gb, 0, none⟩ 1 1 [.int .u64 ce1.vA, .int .u64 ce1.vB, .int .u8 3, .int .u32 q.wh, .int .u32 x, .bool ce1.is] (Eq.trans (by rfl) FA.out) rfl (World.news_of_block (cs := #[.int .u64 ce1.vA, .int .u64 ce1.vB, .int .u8 3, .int .u32 q.wh, .int .u32 x, .bool ce1.is]) (t := 69) (fr := (0, 0)) BXB.out) (by simp [Value.oneCell']) (by omega) (by unfold maxLen; omega) (by omega) GZ W.heap.size rfl ?_
            intro gg cc WQ hown1 hgrow hat hlt1
            exact ⟨_, rfl, gaN GZ (by simpa using hown1) hgrow hat⟩
          case o90_14 => clear hL hC hk hw; refine step_plainD rfl ?_; go_simp; first | exact gt_ | exact ⟨_, rfl, gt_⟩
          all_goals (have c := kg7 hC; clear hL hC hk hw; refine step_plainD rfl ?_; go_simp; first | exact gv rfl ⟨rfl, trivial⟩ | exact ⟨_, rfl, gv rfl ⟨rfl, trivial⟩⟩)
        have S1 := Lib.hid hB.1
        simp only [allF, vsP, pw, true_and, and_true, Nat.reduceAdd] at hall
        obtain ⟨gn, cap_gn, fs, hor, bx⟩ := hfin
        rw [fs] at htold
        simp only [TL, Act.put, List.setIfInBounds_toArray, List.set_cons_succ, List.set_cons_zero, hall, htold, fs]
        generalize vals 12 = vz90
        replace SS := Lib.hid (SS.out.pushP BEG.out hB.st SS.out.lt (by rcases hor with e | e <;> omega) bx)
        clear hall vals hB htold fs hor bx
        go_wp2
        go_roundw
        case measure => simp [intOf]; omega
        case rel => exact ⟨1, by omega, rfl, Lib.hid ⟨[ce1], rfl, fun t c h => by (have e := h; cases t with | zero => (have e : ce1 = c := by simpa using e); rw [← e]; exact S1.out | succ t => simp at e), .inr ⟨gn, cap_gn, rfl, by rw [pile_one HXK.out]; exact SS.out⟩⟩⟩
      · have SS := Lib.hid hst
        clear hst
        have y0 : wr.cell? ⟨gg, k, none⟩ = some (.int .u32 x) := (SS.out.bx.2.1.out.cell k).trans (HCR.out k x HXK.out)
        go_upto_region 9 with fail
        clear y0
        refine wp_SGO (D := DP w g q v base i p l seen (oCraft q) Rp.enc) 11 12 13 14 (k + 1) (SB (seen[i + 1 + k]? = some ce1) False w g q v base p (i + 1 + k + 1) p l [.box gg cur 22, .box w.heap.size #[.int .u16 0, .int .u64 0, .int .u64 0, .int .u64 0] 41]) #[.int .u64 ce1.vA, .int .u64 ce1.vB, .int .u8 3, .int .u32 q.wh, .int .u32 x, .bool ce1.is] (pileC (ths q.wh xs cs (cs.map Ce.vA)) ++ #[.int .u64 ce1.vA, .int .u64 ce1.vB, .int .u8 3, .int .u32 q.wh, .int .u32 x, .bool ce1.is]) [some (.slice (some ⟨gp, 0, none⟩) k capk, True), pw g 0, pw g 0, pw g 7, pw g 0, pw g 0, pw g 0, pw g 1, some (.int .u32 q.wh, True), some (.int .u32 x, True), some (.agg #[.int .u8 3, .int .u32 q.wh, .int .u32 x], True), some (.agg (thing ce1.vA ce1.vB 3 q.wh x ce1.is), True), none, none, none] 0 SS.out BEG.out rfl rfl (fun vals => ?_) (fun vals W96 hB hfin htold hall => ?_) (ea 12 rfl) (ea 13 rfl)
        · simp only [ObD, Act.put, List.setIfInBounds_toArray, List.set_cons_succ, List.set_cons_zero]
          refine ⟨?_, ?_, ?_, ?_, ?_, ?_, ?_, ?_, ?_, ?_, ?o95_10, ?o95_11, ?o95_12, ?o95_13, ?o95_14, trivial⟩
          all_goals (intro L W hL hk hC hw; have f := depsG hw rfl rfl rfl; simp only [depF, vsP, pw, List.getD_cons_succ, List.getD_cons_zero, and_true, true_and] at f)
          case o95_10 => have CL := Lib.hid (stack_any q.wh x W); clear hL hC hk hw; refine step_plainD rfl ?_; go_simp; (with_reducible refine CL.out.mono ?_); rintro e w8 ⟨rfl, h2⟩; first | exact gq h2 rfl ⟨rfl, trivial⟩ | exact ⟨_, rfl, gq h2 rfl ⟨rfl, trivial⟩⟩
          case o95_11 =>
            have CL := Lib.hid (look_KG (hC.pre hk) BEG.out (by have := HI.out; omega) CE1.out 3 q.wh x); clear hL hC hk hw; refine step_plainD rfl ?_; go_simp; (with_reducible refine CL.out.mono ?_); rintro e w8 (⟨h, rfl, h2⟩ | ⟨h1, rfl, hf, H⟩)
            · exact ⟨_, rfl, Did.miss (MISS.out h) h2⟩
            · first | exact gk hf H rfl ⟨rfl, trivial⟩ | exact ⟨_, rfl, gk hf H rfl ⟨rfl, trivial⟩⟩
          case o95_12 => have ZZ := hC.fr.size; unfold thing at f; clear hL hC hk hw; refine step_plainD rfl ?_; go_simp; first | exact gm1 ZZ | exact ⟨_, rfl, gm1 ZZ⟩
          case o95_13 =>
            have GZ := hC.fr.size; have fm : vals 0 = .slice (some ⟨gp, 0, none⟩) k capk := (Fg.get (f := vsP (some (.slice (some ⟨gp, 0, none⟩) k capk, True))) (hw ⟨0, .data⟩ (by simp) rfl) (by decide) (by decide) (by decide) rfl).1; obtain ⟨gb, fa, hgb, bxb⟩ := Fg.geta (hw ⟨12, .data⟩ (by simp) rfl) (by decide) (by decide); have FA := Lib.hid fa; have BXB := Lib.hid bxb; obtain ⟨i0, hi0, hz0, hz1, hz2⟩ := info_parts thing_info; have GR := Lib.hid (hC.row hk)
            clear hL hC hk hw
            refine step_append_lies _ (by rfl) _ _ _ (by rfl) gp 69 i0 _ 6 32 Try.underlying80 hi0 hz0 hz1 hz2 rfl (by omega) (.slice (some ⟨gp, 0, none⟩) k capk) k _ (Eq.trans (by rfl) fm) GR.out ⟨gb, 0, none⟩ 1 1 [.int .u64 ce1.vA, .int .u64 ce1.vB, .int .u8 3, .int .u32 q.wh, .int .u32 x, .bool ce1.is] (Eq.trans (by rfl) FA.out) rfl (World.news_of_block (cs := #[.int .u64 ce1.vA, .int .u64 ce1.vB, .int .u8 3, .int .u32 q.wh, .int .u32 x, .bool ce1.is]) (t := 69) (fr := (0, 0)) BXB.out) (by simp [Value.oneCell']) (by omega) (by unfold maxLen; omega) (by omega) (Nat.le_of_lt GR.out.lt) W.heap.size rfl ?_
            intro gg cc WQ hown1 hgrow hat hlt1
            exact ⟨_, rfl, ga SS.out BEG.out (n := 0) rfl rfl GR.out GZ (by simpa using hown1) hgrow hat⟩
          case o95_14 => clear hL hC hk hw; refine step_plainD rfl ?_; go_simp; first | exact gt_ | exact ⟨_, rfl, gt_⟩
          all_goals (have c := kg7 hC; clear hL hC hk hw; refine step_plainD rfl ?_; go_simp; first | exact gv rfl ⟨rfl, trivial⟩ | exact ⟨_, rfl, gv rfl ⟨rfl, trivial⟩⟩)
        have S1 := Lib.hid hB.1
        simp only [allF, vsP, pw, true_and, and_true, Nat.reduceAdd] at hall
        obtain ⟨gn, cap_gn, fs, hor, bx⟩ := hfin
        rw [fs] at htold
        simp only [TL, Act.put, List.setIfInBounds_toArray, List.set_cons_succ, List.set_cons_zero, hall, htold, fs]
        generalize vals 12 = vz95
        replace SS := Lib.hid (SS.out.regrow BEG.out 0 rfl rfl hB.st hor bx)
        clear hall vals hB htold fs hor bx
        go_wp2
        go_roundw
        case measure => simp [intOf]; have := HK'.out; omega
        case rel => exact ⟨k', by have := HK'.out; omega, rfl, Lib.hid ⟨cs ++ [ce1], by rw [HK'.out]; simp [HCL.out], fun t c h => by
            rcases Nat.lt_or_ge t cs.length with ht | ht
            · exact HCS.out t c (by rwa [List.getElem?_append_left ht] at h)
            · rw [List.getElem?_append_right ht] at h
              cases hz : t - cs.length with
              | zero =>
                rw [hz] at h
                have e : ce1 = c := by simpa using h
                rw [← e, show t = k by have := HCL.out; omega]; exact S1.out
              | succ n => rw [hz] at h; simp at h, .inr ⟨gn, cap_gn, by rw [HK'.out], by rw [HK'.out, ths_snoc q.wh xs cs x ce1 (by rw [HCL.out]; exact HXK.out), pileC_app]; exact SS.out⟩⟩⟩
    · have d1 : decide ((k : Int) < (NN : Int)) = false := by simp; omega
      have hkk : NN = k := by omega
      subst hkk
      obtain ⟨cs, hcl, hcs, hst⟩ := HK.out
      rcases hst with ⟨h0, -, -⟩ | ⟨gp, capk, rfl, hst⟩
      · exact absurd h0 (by have := HN.out; omega)
      have HCS := Lib.hid hcs
      have HCL := Lib.hid hcl
      have MOK := Lib.hid (fun (t : Nat) (a : Int) (h : (cs.map Ce.vA)[t]? = some a) => craft_ok HOK.out hcs h)
      have LOOKS := Lib.hid (oLooks_ok (seen := seen) (l := l) (wh := q.wh) xs cs (i + 1) (by rw [hcl, HLEN.out]) hcs)
      obtain ⟨fI, hfI⟩ : ∃ f : Int → Int, (fun n => Stk.cnt n (Stk.inN q.wt q.n)) = f := ⟨_, rfl⟩
      obtain ⟨fO, hfO⟩ : ∃ f : Int → Int, (fun n => Stk.cnt n (Stk.outN q.wt q.n)) = f := ⟨_, rfl⟩
      have CHG := Lib.hid (fun (x : Int) (W : World) => (show Calls Try.prog 59 #[.int .u32 q.wt, .int .u64 q.n, .int .u32 x] W fun e w' => e = .returned (.tuple #[.int .u64 (fI x), .int .u64 (fO x)]) ∧ Below W.heap.size W w' by rw [← hfI, ← hfO]; exact Stk.change_any q.wt q.n x HQ.out.n W))
      have BND := Lib.hid (fun (x : Int) => (show (0 ≤ fI x ∧ fI x ≤ 18446744073709551615) ∧ 0 ≤ fO x ∧ fO x ≤ 18446744073709551615 by rw [← hfI, ← hfO]; exact cnt_bound x q.wt q.n))
      have HFI := Lib.hid hfI
      have HFO := Lib.hid hfO
      have hml : (cs.map Ce.vA).length = NN := by rw [List.length_map, hcl]
      generalize cs.map Ce.vA = ms at hst MOK LOOKS hml
      have HML := Lib.hid hml
      have SS := Lib.hid hst
      rw [HLEN.out] at LOOKS
      clear hfI hfO hml hst hcs hcl HK hl d1
      go_wp2
      go_loopw [72] (fun c wr => ∃ k : Nat, k ≤ NN ∧ c = .int .i64 k ∧ Hid (ST w g q v base p (i + 1 + NN) p l (.pile gp NN capk (pileC (ths q.wh xs cs (chg (fun x a => a - fI x) k xs ms))) :: [.box gg cur 22, .box w.heap.size #[.int .u16 0, .int .u64 0, .int .u64 0, .int .u64 0] 41]) wr) ∧ Hid (∀ (t : Nat) (x a : Int), t < k → xs[t]? = some x → ms[t]? = some a → Ls a (fI x))) (fun c _ => NN - (intOf c).toNat)
      case atStart => exact ⟨0, by omega, rfl, Lib.hid (by rw [chg_zero]; exact SS.out), Lib.hid (fun t x a h => by omega)⟩
      case round =>
        clear SS
        obtain ⟨k, hkN, rfl, HS, HLS⟩ := hrel
        by_cases hl : k < NN
        · have d1 : decide ((k : Int) < (NN : Int)) = true := by simp; omega
          obtain ⟨x, hx⟩ : ∃ x, xs[k]? = some x := ⟨_, List.getElem?_eq_getElem (by rw [HLEN.out]; exact hl)⟩
          obtain ⟨a, ha⟩ : ∃ a, ms[k]? = some a := ⟨_, List.getElem?_eq_getElem (by rw [HML.out]; exact hl)⟩
          obtain ⟨c, hc⟩ : ∃ c, cs[k]? = some c := ⟨_, List.getElem?_eq_getElem (by rw [HCL.out]; exact hl)⟩
          have HXK := Lib.hid hx
          have HAK := Lib.hid ha
          have TH := Lib.hid (ths_at q.wh xs cs _ k x c a hx hc ((chg_at (fun x a => a - fI x) k xs ms k (Nat.le_refl _)).trans ha))
          obtain ⟨k', hk'⟩ : ∃ k', k' = k + 1 := ⟨_, rfl⟩
          have hks : (k : Int) + 1 = (k' : Int) := by omega
          have hk4 : k ≤ 4 := by have := HN.out; omega
          have HK' := Lib.hid hk'
          have PE := Lib.hid (show (pileC (ths q.wh xs cs (chg (fun x a => a - fI x) k xs ms))).setIfInBounds (k * 6) (.int .u64 (a - fI x)) = pileC (ths q.wh xs cs (chg (fun x a => a - fI x) k' xs ms)) by
            rw [hk', ← chg_set (fun x a => a - fI x) k xs ms x a hx ha, ← ths_set q.wh xs cs _ k x c a _ hx hc ((chg_at (fun x a => a - fI x) k xs ms k (Nat.le_refl _)).trans ha)]
            exact pileC_set _ k _ _ TH.out)
          have ERR := Lib.hid (fun (e : Int) (h : ∀ l, runOm seen (oLess a (fI x)) (i + 1 + NN) l = .err e) => (show runOm seen (oCraft q) i l = .err e by
            unfold oCraft
            simp only [runOm_bind, decide_eq_false (show ¬ Stk.errN q.wt q.n ≠ 0 from fun h => h HE.out), run_deny_no, run_there S0.out.1 S0.out.2]
            rw [HXS.out, LOOKS.out]
            simp only [runOm_bind]
            rw [HFI.out, oLesses_err fI xs ms k _ x a e HXK.out HAK.out HLS.out h]))
          have SS := HS
          clear hx ha hc hk' HS
          have y0 : wr.cell? ⟨gg, k, none⟩ = some (.int .u32 x) := (SS.out.bx.2.1.out.cell k).trans (HCR.out k x HXK.out)
          go_upto_region 14 with fail
          clear y0
          refine wp_SA (D := DP w g q v base i p l seen (oCraft q) Rp.enc) 11 17 18 True False (i + 1 + NN) l [pw g 0, pw g 0, pw g 0, pw g 3, some (.int .u32 q.wt, True), pw g 0, pw g 0, pw g 0, pw g 5, some (.int .u64 q.n, True), some (.int .u32 x, True), some (.tuple #[.int .u64 (fI x), .int .u64 (fO x)], True), some (.tuple #[.int .u64 (fI x), .int .u64 (fO x)], True), some (.int .u64 (fI x), True), some (.int .u64 (fO x), True), some (.int .u64 (fI x), True), some (.int .u64 (fO x), True)] SS.out (fun vals => ?_) (fun vals W201 hB hall => ?_)
          · simp only [ObD, Act.put, List.setIfInBounds_toArray, List.set_cons_succ, List.set_cons_zero]
            refine ⟨?_, ?_, ?_, ?_, ?_, ?_, ?_, ?_, ?_, ?_, ?_, ?o200_11, ?_, ?_, ?_, ?_, ?_, trivial⟩
            all_goals (intro L W hL hk hC hw; have f := deps hw rfl rfl; simp only [depF, vsP, pw, List.getD_cons_succ, List.getD_cons_zero, and_true, true_and] at f)
            case o200_11 => have AX := Lib.hid (hC.pre hk); have CL := Lib.hid (CHG.out x W); clear hL hC hk hw; refine step_plainD rfl ?_; go_simp; (with_reducible refine CL.out.mono ?_); rintro e w8 ⟨rfl, h2⟩; first | exact kv (Fr.of_below h2) (AX.out.later h2).sb rfl ⟨rfl, trivial⟩ | exact ⟨_, rfl, kv (Fr.of_below h2) (AX.out.later h2).sb rfl ⟨rfl, trivial⟩⟩
            all_goals (have c := kn7 hC; clear hL hC hk hw; refine step_plainD rfl ?_; go_simp; first | exact sv rfl ⟨rfl, trivial⟩ | exact ⟨_, rfl, sv rfl ⟨rfl, trivial⟩⟩)
          simp only [allF, vsP, pw, true_and, and_true, Nat.reduceAdd] at hall
          simp only [TL, Act.put, List.setIfInBounds_toArray, List.set_cons_succ, List.set_cons_zero, hall]
          replace SS := Lib.hid hB.st
          clear hall vals hB
          have yA : W201.cell? ⟨gp, k * 6, none⟩ = some (.int .u64 a) := Pile.cell SS.out.bx.1.out (k * 6) (pileC_at _ k _ TH.out).1
          have CALL := Lib.hid (less_q (MOK.out k a HAK.out) (BND.out x).1 (SS.out.low BEG.out) (Nat.le_of_lt (SS.out.gl BEG.out)))
          go_wp2_with fail
          (with_reducible refine CALL.out.mono ?_)
          rintro e W9 (⟨h, rfl, h2⟩ | ⟨⟨h, h3⟩, rfl, h2⟩ | ⟨h1, rfl, h2⟩)
          · exact ⟨rfl, Did.err (ERR.out 30 (fun l => run_less_great h)) h2⟩
          · exact ⟨rfl, Did.err (ERR.out 215 (fun l => run_less_low h h3)) h2⟩
          replace SS := Lib.hid (SS.out.later h2)
          have HC1 := Lib.hid h1
          clear yA CALL h1 h2 ERR
          have yA : W9.cell? ⟨gp, k * 6, none⟩ = some (.int .u64 a) := Pile.cell SS.out.bx.1.out (k * 6) (pileC_at _ k _ TH.out).1
          have zA : W9.frozen? ⟨gp, k * 6, none⟩ = false := Pile.frozen SS.out.bx.1.out _
          go_wp2
          go_roundw
          case rel =>
            refine ⟨k', by have := HK'.out; omega, rfl, Lib.hid ?_, Lib.hid ?_⟩
            · have h9 := SS.out.updP BEG.out (o := k * 6) (u := .int .u64 (a - fI x)) 0 (pile_lt TH.out)
              rw [PE.out] at h9
              exact h9
            · intro t y b ht h1 h2
              rcases Nat.lt_or_ge t k with h3 | h3
              · exact HLS.out t y b h3 h1 h2
              · obtain rfl : t = k := by have := HK'.out; omega
                have e1 : x = y := by have := HXK.out; rw [this] at h1; simpa using h1
                have e2 : a = b := by have := HAK.out; rw [this] at h2; simpa using h2
                rw [← e1, ← e2]; exact HC1.out
          case measure => simp [intOf]; have := HK'.out; omega
        · have d1 : decide ((k : Int) < (NN : Int)) = false := by simp; omega
          have hkk : NN = k := by omega
          subst hkk
          have LESS := Lib.hid (oLesses_ok (seen := seen) (l := l) fI xs ms (i + 1 + NN) (by rw [HML.out, HLEN.out]) (fun t x a h1 h2 => HLS.out t x a (by have := (List.getElem?_eq_some_iff.1 h1).1; have := HLEN.out; omega) h1 h2))
          rw [HLEN.out] at LESS
          have hml2 : (chg (fun x a => a - fI x) NN xs ms).length = NN := by rw [chg_len, HML.out]
          have MOK2 := Lib.hid (fun (t : Nat) (b : Int) (h : (chg (fun x a => a - fI x) NN xs ms)[t]? = some b) => less_ok (by rw [HML.out, HLEN.out]) (by rw [HLEN.out]; exact Nat.le_refl _) MOK.out (fun x => (BND.out x).1) (fun t x a h1 h2 => HLS.out t x a (by have := (List.getElem?_eq_some_iff.1 h1).1; have := HLEN.out; omega) h1 h2) h)
          generalize chg (fun x a => a - fI x) NN xs ms = ms2 at HS LESS hml2 MOK2
          have HML2 := Lib.hid hml2
          have SS := HS
          clear HS HLS hml2 d1 hl
          go_wp2
          go_loopw [108] (fun c wr => ∃ k : Nat, k ≤ NN ∧ c = .int .i64 k ∧ Hid (ST w g q v base p (i + 1 + NN) p l (.pile gp NN capk (pileC (ths q.wh xs cs (chg (fun x a => a + fO x) k xs ms2))) :: [.box gg cur 22, .box w.heap.size #[.int .u16 0, .int .u64 0, .int .u64 0, .int .u64 0] 41]) wr) ∧ Hid (∀ (t : Nat) (x a : Int), t < k → xs[t]? = some x → ms2[t]? = some a → Mr a (fO x))) (fun c _ => NN - (intOf c).toNat)
          case atStart => exact ⟨0, by omega, rfl, Lib.hid (by rw [chg_zero]; exact SS.out), Lib.hid (fun t x a h => by omega)⟩
          case round =>
            clear SS
            obtain ⟨k, hkN, rfl, HS, HLS⟩ := hrel
            by_cases hl : k < NN
            · have d1 : decide ((k : Int) < (NN : Int)) = true := by simp; omega
              obtain ⟨x, hx⟩ : ∃ x, xs[k]? = some x := ⟨_, List.getElem?_eq_getElem (by rw [HLEN.out]; exact hl)⟩
              obtain ⟨a, ha⟩ : ∃ a, ms2[k]? = some a := ⟨_, List.getElem?_eq_getElem (by rw [HML2.out]; exact hl)⟩
              obtain ⟨c, hc⟩ : ∃ c, cs[k]? = some c := ⟨_, List.getElem?_eq_getElem (by rw [HCL.out]; exact hl)⟩
              have HXK := Lib.hid hx
              have HAK := Lib.hid ha
              have TH := Lib.hid (ths_at q.wh xs cs _ k x c a hx hc ((chg_at (fun x a => a + fO x) k xs ms2 k (Nat.le_refl _)).trans ha))
              obtain ⟨k', hk'⟩ : ∃ k', k' = k + 1 := ⟨_, rfl⟩
              have hks : (k : Int) + 1 = (k' : Int) := by omega
              have hk4 : k ≤ 4 := by have := HN.out; omega
              have HK' := Lib.hid hk'
              have PE := Lib.hid (show (pileC (ths q.wh xs cs (chg (fun x a => a + fO x) k xs ms2))).setIfInBounds (k * 6) (.int .u64 (a + fO x)) = pileC (ths q.wh xs cs (chg (fun x a => a + fO x) k' xs ms2)) by
                rw [hk', ← chg_set (fun x a => a + fO x) k xs ms2 x a hx ha, ← ths_set q.wh xs cs _ k x c a _ hx hc ((chg_at (fun x a => a + fO x) k xs ms2 k (Nat.le_refl _)).trans ha)]
                exact pileC_set _ k _ _ TH.out)
              have ERR := Lib.hid (fun (e : Int) (h : ∀ l, runOm seen (oMore a (fO x)) (i + 1 + NN) l = .err e) => (show runOm seen (oCraft q) i l = .err e by
                unfold oCraft
                simp only [runOm_bind, decide_eq_false (show ¬ Stk.errN q.wt q.n ≠ 0 from fun h => h HE.out), run_deny_no, run_there S0.out.1 S0.out.2]
                rw [HXS.out, LOOKS.out]
                simp only [runOm_bind]
                rw [HFI.out, LESS.out]
                simp only [runOm_bind]
                rw [HFO.out, oMores_err fO xs ms2 k _ x a e HXK.out HAK.out HLS.out h]))
              have SS := HS
              clear hx ha hc hk' HS
              have y0 : wr.cell? ⟨gg, k, none⟩ = some (.int .u32 x) := (SS.out.bx.2.1.out.cell k).trans (HCR.out k x HXK.out)
              go_upto_region 20 with fail
              clear y0
              refine wp_SA (D := DP w g q v base i p l seen (oCraft q) Rp.enc) 11 17 18 True False (i + 1 + NN) l [pw g 0, pw g 0, pw g 0, pw g 3, some (.int .u32 q.wt, True), pw g 0, pw g 0, pw g 0, pw g 5, some (.int .u64 q.n, True), some (.int .u32 x, True), some (.tuple #[.int .u64 (fI x), .int .u64 (fO x)], True), some (.tuple #[.int .u64 (fI x), .int .u64 (fO x)], True), some (.int .u64 (fI x), True), some (.int .u64 (fO x), True), some (.int .u64 (fI x), True), some (.int .u64 (fO x), True)] SS.out (fun vals => ?_) (fun vals W301 hB hall => ?_)
              · simp only [ObD, Act.put, List.setIfInBounds_toArray, List.set_cons_succ, List.set_cons_zero]
                refine ⟨?_, ?_, ?_, ?_, ?_, ?_, ?_, ?_, ?_, ?_, ?_, ?o300_11, ?_, ?_, ?_, ?_, ?_, trivial⟩
                all_goals (intro L W hL hk hC hw; have f := deps hw rfl rfl; simp only [depF, vsP, pw, List.getD_cons_succ, List.getD_cons_zero, and_true, true_and] at f)
                case o300_11 => have AX := Lib.hid (hC.pre hk); have CL := Lib.hid (CHG.out x W); clear hL hC hk hw; refine step_plainD rfl ?_; go_simp; (with_reducible refine CL.out.mono ?_); rintro e w8 ⟨rfl, h2⟩; first | exact kv (Fr.of_below h2) (AX.out.later h2).sb rfl ⟨rfl, trivial⟩ | exact ⟨_, rfl, kv (Fr.of_below h2) (AX.out.later h2).sb rfl ⟨rfl, trivial⟩⟩
                all_goals (have c := kn7 hC; clear hL hC hk hw; refine step_plainD rfl ?_; go_simp; first | exact sv rfl ⟨rfl, trivial⟩ | exact ⟨_, rfl, sv rfl ⟨rfl, trivial⟩⟩)
              simp only [allF, vsP, pw, true_and, and_true, Nat.reduceAdd] at hall
              simp only [TL, Act.put, List.setIfInBounds_toArray, List.set_cons_succ, List.set_cons_zero, hall]
              replace SS := Lib.hid hB.st
              clear hall vals hB
              have yA : W301.cell? ⟨gp, k * 6, none⟩ = some (.int .u64 a) := Pile.cell SS.out.bx.1.out (k * 6) (pileC_at _ k _ TH.out).1
              have CALL := Lib.hid (more_q (MOK2.out k a HAK.out) (BND.out x).2 (SS.out.low BEG.out) (Nat.le_of_lt (SS.out.gl BEG.out)))
              go_wp2_with fail
              (with_reducible refine CALL.out.mono ?_)
              rintro e W9 (⟨h, rfl, h2⟩ | ⟨h1, rfl, h2⟩)
              · exact ⟨rfl, Did.err (ERR.out 30 (fun l => run_more_no h)) h2⟩
              replace SS := Lib.hid (SS.out.later h2)
              have HC1 := Lib.hid h1
              clear yA CALL h1 h2 ERR
              have yA : W9.cell? ⟨gp, k * 6, none⟩ = some (.int .u64 a) := Pile.cell SS.out.bx.1.out (k * 6) (pileC_at _ k _ TH.out).1
              have zA : W9.frozen? ⟨gp, k * 6, none⟩ = false := Pile.frozen SS.out.bx.1.out _
              go_wp2
              go_roundw
              case rel =>
                refine ⟨k', by have := HK'.out; omega, rfl, Lib.hid ?_, Lib.hid ?_⟩
                · have h9 := SS.out.updP BEG.out (o := k * 6) (u := .int .u64 (a + fO x)) 0 (pile_lt TH.out)
                  rw [PE.out] at h9
                  exact h9
                · intro t y b ht h1 h2
                  rcases Nat.lt_or_ge t k with h3 | h3
                  · exact HLS.out t y b h3 h1 h2
                  · obtain rfl : t = k := by have := HK'.out; omega
                    have e1 : x = y := by have := HXK.out; rw [this] at h1; simpa using h1
                    have e2 : a = b := by have := HAK.out; rw [this] at h2; simpa using h2
                    rw [← e1, ← e2]; exact HC1.out
              case measure => simp [intOf]; have := HK'.out; omega
            · have d1 : decide ((k : Int) < (NN : Int)) = false := by simp; omega
              have hkk : NN = k := by omega
              subst hkk
              have MORE := Lib.hid (oMores_ok (seen := seen) (l := l) fO xs ms2 (i + 1 + NN) (by rw [HML2.out, HLEN.out]) (fun t x a h1 h2 => HLS.out t x a (by have := (List.getElem?_eq_some_iff.1 h1).1; have := HLEN.out; omega) h1 h2))
              rw [HLEN.out] at MORE
              have hml3 : (chg (fun x a => a + fO x) NN xs ms2).length = NN := by rw [chg_len, HML2.out]
              generalize chg (fun x a => a + fO x) NN xs ms2 = ms3 at HS MORE hml3
              have HML3 := Lib.hid hml3
              have SS := HS
              clear HS HLS hml3 d1 hl
              go_wp2
              go_loopw [144] (fun c wr => ∃ k : Nat, k ≤ NN ∧ c = .int .i64 k ∧ Hid (∃ p4, ST w g q v base p (i + 1 + NN) p4 (l ++ (amts q.wh xs ms3).take k) (.pile gp NN capk (pileC (ths q.wh xs cs ms3)) :: [.box gg cur 22, .box w.heap.size #[.int .u16 0, .int .u64 0, .int .u64 0, .int .u64 0] 41]) wr)) (fun c _ => NN - (intOf c).toNat)
              case atStart => exact ⟨0, by omega, rfl, Lib.hid ⟨p, by rw [List.take_zero, List.append_nil]; exact SS.out⟩⟩
              case round =>
                clear SS
                obtain ⟨k, hkN, rfl, HS⟩ := hrel
                obtain ⟨p4, hst⟩ := HS.out
                have SS := Lib.hid hst
                clear HS hst
                by_cases hl : k < NN
                · have d1 : decide ((k : Int) < (NN : Int)) = true := by simp; omega
                  obtain ⟨x, hx⟩ : ∃ x, xs[k]? = some x := ⟨_, List.getElem?_eq_getElem (by rw [HLEN.out]; exact hl)⟩
                  obtain ⟨a, ha⟩ : ∃ a, ms3[k]? = some a := ⟨_, List.getElem?_eq_getElem (by rw [HML3.out]; exact hl)⟩
                  obtain ⟨c, hc⟩ : ∃ c, cs[k]? = some c := ⟨_, List.getElem?_eq_getElem (by rw [HCL.out]; exact hl)⟩
                  have TH := Lib.hid (ths_at q.wh xs cs ms3 k x c a hx hc ha)
                  have AT := Lib.hid (amts_take q.wh xs ms3 k x a hx ha)
                  obtain ⟨k', hk'⟩ : ∃ k', k' = k + 1 := ⟨_, rfl⟩
                  have hks : (k : Int) + 1 = (k' : Int) := by omega
                  have hk4 : k ≤ 4 := by have := HN.out; omega
                  have HK' := Lib.hid hk'
                  clear hx ha hc hk'
                  obtain ⟨q0, q1, q2, q3, q4, q5⟩ := pileC_at _ k _ TH.out
                  have y0 : wr.cell? ⟨gp, k * 6, none⟩ = some (.int .u64 a) := Pile.cell SS.out.bx.1.out _ q0
                  have y1 : wr.cell? ⟨gp, k * 6 + 1, none⟩ = some (.int .u64 c.vB) := Pile.cell SS.out.bx.1.out _ q1
                  have y2 : wr.cell? ⟨gp, k * 6 + 2, none⟩ = some (.int .u8 3) := Pile.cell SS.out.bx.1.out _ q2
                  have y3 : wr.cell? ⟨gp, k * 6 + 3, none⟩ = some (.int .u32 q.wh) := Pile.cell SS.out.bx.1.out _ q3
                  have y4 : wr.cell? ⟨gp, k * 6 + 4, none⟩ = some (.int .u32 x) := Pile.cell SS.out.bx.1.out _ q4
                  have y5 : wr.cell? ⟨gp, k * 6 + 5, none⟩ = some (.bool c.is) := Pile.cell SS.out.bx.1.out _ q5
                  clear q0 q1 q2 q3 q4 q5
                  obtain ⟨W5, hW5⟩ : ∃ W5, wr.alloc (.cells #[.int .u64 a, .int .u64 c.vB, .int .u8 3, .int .u32 q.wh, .int .u32 x, .bool c.is] 69) = W5 := ⟨_, rfl⟩
                  have SA := SS.out.later (new_ (Below.refl _ _) (.cells #[.int .u64 a, .int .u64 c.vB, .int .u8 3, .int .u32 q.wh, .int .u32 x, .bool c.is] 69))
                  rw [hW5] at SA
                  replace SS := Lib.hid SA
                  have CALL := Lib.hid (amount_S SS.out BEG.out (by have := HL.out; have := HN.out; rw [List.length_append, List.length_take]; omega) 3 q.wh x a (show _ = l ++ (amts q.wh xs ms3).take (k + 1) by rw [List.append_assoc, AT.out]))
                  have HW5 := Lib.hid hW5
                  clear SA hW5 AT
                  go_wp2_with fail
                  rw [HW5.out]
                  (with_reducible refine CALL.out.mono ?_)
                  rintro e W6 ⟨rfl, hf, p5, hs⟩
                  have SZ := Lib.hid hs
                  clear CALL hf hs HW5 y0 y1 y2 y3 y4 y5
                  go_wp2
                  go_roundw
                  case rel => exact ⟨k', by have := HK'.out; omega, rfl, Lib.hid ⟨p5, by rw [HK'.out]; exact SZ.out⟩⟩
                  case measure => simp [intOf]; have := HK'.out; omega
                · have d1 : decide ((k : Int) < (NN : Int)) = false := by simp; omega
                  have hkk : NN = k := by omega
                  subst hkk
                  have hta : (amts q.wh xs ms3).take NN = amts q.wh xs ms3 := List.take_of_length_le (by rw [amts_len _ _ _ (by rw [HML3.out, HLEN.out]), HLEN.out]; exact Nat.le_refl _)
                  have SA := SS.out
                  rw [hta] at SA
                  replace SS := Lib.hid SA
                  have RR := Lib.hid (show runOm seen (oCraft q) i l = .ok ((⟨q.n, 0, 0⟩ : Rp), l ++ amts q.wh xs ms3) (i + 1 + NN) by
                    unfold oCraft
                    simp only [runOm_bind, decide_eq_false (show ¬ Stk.errN q.wt q.n ≠ 0 from fun h => h HE.out), run_deny_no, run_there S0.out.1 S0.out.2]
                    rw [HXS.out, LOOKS.out]
                    simp only [runOm_bind]
                    rw [HFI.out, LESS.out]
                    simp only [runOm_bind]
                    rw [HFO.out, MORE.out]
                    simp only [runOm_bind, oAmounts_ok, runOm_pure])
                  clear SA hta
                  have y0 : wr.cell? ⟨g, 5, none⟩ = some (.int .u64 q.n) := SS.out.kn.c5
                  obtain ⟨⟨z0, z1, z2, z3⟩, x0, x1, x2, x3⟩ := four_cells SS.out.bx.2.2.1.out
                  go_wp2
                  generalize hW : (World.setCell _ (⟨w.heap.size, 3, none⟩ : Addr) _) = WZ
                  have b9 : Box WZ w.heap.size #[.int .u16 0, .int .u64 q.n, .int .u64 0, .int .u64 0] 41 := by
                    rw [← hW]
                    exact four_box SS.out.bx.2.2.1.out
                  have F9 : Hid (Fr (fun x => x = w.heap.size) wr WZ) := Lib.hid (by
                    rw [← hW]
                    exact four_fr)
                  obtain ⟨⟨v0, v1, v2, v3⟩, -⟩ := four_cells b9
                  clear hW b9 z0 z1 z2 z3 x0 x1 x2 x3 y0
                  refine bodyPost_ret (v := .agg #[.int .u16 0, .int .u64 q.n, .int .u64 0, .int .u64 0]) (by simp [results, Try.results42, go_sem, v0, v1, v2, v3]; try rfl) rfl ?_
                  exact (SS.out.wr BEG.out 2 rfl F9.out).did (y := (⟨q.n, 0, 0⟩, l ++ amts q.wh xs ms3)) RR.out rfl
theorem craft_all (w : World) (g : Nat) (q : Ot) (v : Value) (base i : Nat) (p : Value) (l : List Pu) (seen : List Ce) (hst : St w g q v base i p l) (hs : SeenAt w g v seen) (hg : g < base) (hbase : base ≤ w.heap.size) (hl : l.length ≤ 700) (hi : i ≤ 700000) (hq : q.Ok) (hok : ∀ c ∈ seen, c.Ok) :
    Calls Try.prog 42 #[.pointer (some ⟨g, 0, none⟩)] w (Did w g q v base i p l seen (oCraft q) Rp.enc) := by
  by_cases h : Stk.errN q.wt q.n = 0
  · exact craft_good w g q v base i p l seen hst hs hg hbase hl hi hq hok h
  · exact craft_bad w g q v base i p l seen hst hs hg hbase hl hi hq hok h
end Go.Proofs.Ytneaehimdmachaa.Rule
