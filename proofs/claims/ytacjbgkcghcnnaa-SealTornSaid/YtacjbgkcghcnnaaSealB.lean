import Derived.Test.YtacjbgkcghcnnaaSealA
import Derived.Test.YtacjbgkcghcnnaaSeal4
import Derived.RegionTactic
/- The document's Seal of any bytes; a page that some bytes begin. -/
namespace Go.Proofs.Ytacjbgkcghcnnaa.Seal
open Go.ChangeShapes Go.WideShapes Go.ChangeAt Go.RowKit Go.IntWalk Go.Shelf Go.Proofs.NumMath Go.Proofs.Mem NumBytes
set_option linter.unusedVariables false
set_option maxHeartbeats 2000000 in
theorem ref_seal_any (w : World) (B : Nat) (v : Value) (xb : List Int) (n : Int) (hv : IR w B .u8 v xb) (hB : B ≤ w.heap.size) (hn : 0 ≤ n ∧ n ≤ 18446744073709551615) :
    Calls Try.prog 11 #[v, .int .u64 n] w (SealP w (if xb.length = 448 then sealS xb n else [])) := by
  by_cases hl : xb.length = 448
  · rw [if_pos hl]
    obtain ⟨A, c, rfl, h2, h3, h4, h5⟩ := hv
    obtain ⟨b, off, rfl, _⟩ := h5 0 (by omega)
    have hv' : IR w B .u8 (.slice (some ⟨b, off, none⟩) 448 c) xb := ⟨_, c, by rw [hl], h2, h3, h4, h5⟩
    have := ref_seal_yes w B b off c xb n hv' hB hl hn
    rw [hl]
    exact this
  · rw [if_neg hl]
    obtain ⟨A, c, rfl, h2, h3⟩ := hv.form
    unfold maxLen at h3
    have d1 : ((xb.length : Int) == 448) = false := by simp; omega
    have d2 : ((xb.length : Int) != 448) = true := by simp; omega
    have d3 : (xb.length == 448) = false := by simpa using hl
    clear hv
    go_enter Try.func11, Try.ntmps11
    go_wp2
    go_ret
    exact ⟨_, [], rfl, Tab.nil _ _ _, rfl, Below.refl _ _⟩
theorem seal_list {xb : List Int} {n : Int} (hx : Bytes xb) : ∀ xs ∈ (if xb.length = 448 then sealS xb n else []), Bytes xs := fun xs h => by
  split at h
  · unfold sealS at h
    obtain ⟨a, _, rfl⟩ := List.mem_map.1 h
    exact sec_bytes hx n _
  · cases h
end Go.Proofs.Ytacjbgkcghcnnaa.Seal
