/- An atom that came in: its numbers lie in the range of int. -/
import Derived.Test.YtehbkgmpnkmgjaaDatArg
namespace Go.Proofs.Ytehbkgmpnkmgjaa.AtomW
open Go.RowKit
open Go.Proofs.Ytehbkgmpnkmgjaa.Rdr Go.Proofs.Ytehbkgmpnkmgjaa.Dat
def rIntW : Reader Int := fun _ _ _ cs z => cs = [.int .i64 z] ∧ (Lit.int .i64 z).wf = true
def rAtomW : Reader AtomD := rTwo rStr (rSl 1 rIntW)
theorem opn_intW {P : Program} {t : TypeId} (ht : P.underlying t = some (.int .i64)) : Opn P t rIntW := fun H enc W fuel cs y h => by
  obtain ⟨z, e, _, hw⟩ := DataW.trod_int ht h
  exact ⟨z, e, hw⟩
theorem opn_atomW : Opn Try.prog 35 rAtomW := opn_struct2 Try.underlying35 rfl (by kernel_rfl) (by kernel_rfl) (opn_str Try.underlying9) (opn_slice Try.underlying23 (by kernel_rfl) (by decide) (opn_intW Try.underlying3))
theorem elsW {w : World} {lo hi : Nat} {a : Option Addr} {xs : List Int} (h : Els 1 rIntW w lo hi a xs) : Els 1 rInt w lo hi a xs ∧ ∀ z ∈ xs, (Lit.int .i64 z).wf = true := by
  constructor
  · intro h0
    obtain ⟨b, off, ha, h1, h2, h3⟩ := h h0
    refine ⟨b, off, ha, h1, h2, fun j hj => ?_⟩
    obtain ⟨cs, hl, hc, hr⟩ := h3 j hj
    exact ⟨cs, hl, hc, hr.1⟩
  · intro z hz
    obtain ⟨j, hj, rfl⟩ := List.getElem_of_mem hz
    obtain ⟨b, off, ha, h1, h2, h3⟩ := h (by omega)
    obtain ⟨cs, hl, hc, hr⟩ := h3 j hj
    exact hr.2
theorem atomW {w : World} {lo hi : Nat} {cs : List Value} {x : AtomD} (h : rAtomW w lo hi cs x) : rAtom w lo hi cs x ∧ ∀ z ∈ x.2, (Lit.int .i64 z).wf = true := by
  obtain ⟨c, d, hcd, hs, h2, a, cap, hd, hl, he⟩ := h
  exact ⟨⟨c, d, hcd, hs, h2, a, cap, hd, hl, (elsW he).1⟩, (elsW he).2⟩
end Go.Proofs.Ytehbkgmpnkmgjaa.AtomW
