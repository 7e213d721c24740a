/- The walk of law FnExactLookupRelation, at every database and string. -/
import Derived.Test.YtbafhahmpflnjaaLookupRelationC
import Derived.Test.YtbafhahmpflnjaaLookI
namespace Go.Proofs.Ytbafhahmpflnjaa.LookupRelationW
open Go.RowKit
open Go.Proofs.Ytbafhahmpflnjaa.Num Go.Proofs.Ytbafhahmpflnjaa.IntRow Go.Proofs.Ytbafhahmpflnjaa.GridLaw Go.Proofs.Ytbafhahmpflnjaa.Rdr Go.Proofs.Ytbafhahmpflnjaa.Dat Go.Proofs.Ytbafhahmpflnjaa.TableLaw Go.Proofs.Ytbafhahmpflnjaa.DbP Go.Proofs.Ytbafhahmpflnjaa.QryFor Go.Proofs.Ytbafhahmpflnjaa.LookI
set_option linter.unusedVariables false

theorem lkr_tot (ts : List TableD) (s : List UInt8) (hs : szD ts ≤ 1048576) : tot (lkr ts s).1.2 ≤ 1048576 := by
  unfold lkr
  by_cases hv : vDb ts = true
  · rw [if_pos hv]
    cases hf : ts.find? (fun t => t.1.toList == s) with
    | none => decide
    | some t =>
      obtain ⟨j, hj, h6⟩ := List.getElem_of_mem (List.mem_of_find?_eq_some hf)
      have h1 := elem_le szT ts j hj
      have h2 : szT ts[j] = ts[j].1.size + szG ts[j].2.2 := rfl
      rw [h6, szG_tot] at h2
      unfold szD at hs
      rw [h6] at h1
      show tot t.2.2 ≤ _
      omega
  · rw [if_neg hv]; decide
theorem walk (cs0 : List Value) (x0 : List TableD) (s1 : ByteArray) (hs1 : s1.size ≤ maxLen) (w : World) (r0 : rDb w 0 w.heap.size cs0 x0) :
    Calls Try.prog 6 #[.agg cs0.toArray, .string s1] w fun e w' => e = .returned (.bool true) ∧ Below w.heap.size w w' :=
  LookupRelationC.walk cs0 x0 s1 w (by unfold maxLen at hs1; omega) r0 (fun hs _ => ⟨(lkr x0 s1.toList).1.1, (lkr x0 s1.toList).1.2, (lkr x0 s1.toList).2, lkr_tot x0 s1.toList hs,
    fun W d0 h0 => (spec_look d0 x0 s1 0 W.heap.size W hs h0 (Nat.le_refl _)).mono fun e w' ⟨r, f, a, cap, vs, h1, h2, h3, h4⟩ => by
      rw [← lks_eq h2]; exact ⟨a, cap, vs, h1, h3, h4⟩,
    fun W d0 h0 => (impl_look d0 x0 s1 0 W.heap.size W hs h0 (Nat.le_refl _)).mono fun e w' ⟨r, f, a, cap, vs, h1, h2, h3, h4⟩ => by
      rw [← lks_eq h2]; exact ⟨a, cap, vs, h1, h3, h4⟩⟩)
end Go.Proofs.Ytbafhahmpflnjaa.LookupRelationW
