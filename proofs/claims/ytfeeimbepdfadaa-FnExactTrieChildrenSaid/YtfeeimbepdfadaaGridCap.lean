/- Rows whose capacity is known to cover them: what slices them may be cut (no program in sight). -/
import Derived.Test.YtfeeimbepdfadaaRelKit
namespace Go.Proofs.Ytfeeimbepdfadaa.GridCap
open Go.RowKit
open Go.Proofs.Ytfeeimbepdfadaa.Num Go.Proofs.Ytfeeimbepdfadaa.IntRow Go.Proofs.Ytfeeimbepdfadaa.IntLaw Go.Proofs.Ytfeeimbepdfadaa.Grid Go.Proofs.Ytfeeimbepdfadaa.GridMore Go.Proofs.Ytfeeimbepdfadaa.GridLaw Go.Proofs.Ytfeeimbepdfadaa.GridLaw2 Go.Proofs.Ytfeeimbepdfadaa.Keep Go.Proofs.Ytfeeimbepdfadaa.Kept Go.Proofs.Ytfeeimbepdfadaa.Cells Go.Proofs.Ytfeeimbepdfadaa.RelKit
set_option linter.unusedVariables false

def GRc (w : World) (B : Nat) (a : Option Addr) (xss : List (List Int)) : Prop :=
  0 < xss.length → ∃ b off, a = some ⟨b, off, none⟩ ∧ b < B ∧ ∀ j (h : j < xss.length), ∃ aj capj, w.cell? ⟨b, off + j, none⟩ = some (.slice aj (xss[j]).length capj) ∧ (xss[j]).length ≤ capj ∧ Rd w B aj xss[j]
theorem GRc.rd {w : World} {B : Nat} {a : Option Addr} {xss : List (List Int)} (h : GRc w B a xss) : GRd w B a xss := fun h0 => by
  obtain ⟨b, off, e, hB, hc⟩ := h h0
  exact ⟨b, off, e, hB, fun j hj => by obtain ⟨aj, capj, h1, _, h2⟩ := hc j hj; exact ⟨aj, capj, h1, h2⟩⟩
theorem GRc.below {w w' : World} {B : Nat} {a : Option Addr} {xss : List (List Int)} (h : GRc w B a xss) (hb : Below B w w') : GRc w' B a xss := fun h0 => by
  obtain ⟨b, off, e, hB, hc⟩ := h h0
  refine ⟨b, off, e, hB, fun j hj => ?_⟩
  obtain ⟨aj, capj, h1, h3, h2⟩ := hc j hj
  exact ⟨aj, capj, (hb.cell (p := ⟨b, off + j, none⟩) hB).trans h1, h3, h2.below hb⟩
theorem GRc.mono {w : World} {B B' : Nat} {a : Option Addr} {xss : List (List Int)} (h : GRc w B a xss) (hB : B ≤ B') : GRc w B' a xss := fun h0 => by
  obtain ⟨b, off, e, hb, hc⟩ := h h0
  refine ⟨b, off, e, by omega, fun j hj => ?_⟩
  obtain ⟨aj, capj, h1, h3, h2⟩ := hc j hj
  exact ⟨aj, capj, h1, h3, h2.mono hB⟩
theorem gown_rc {w : World} {lo : Nat} {e i : TypeId} {a : Option Addr} {cap : Nat} {vs : List Value} {xss : List (List Int)} (h : GOwn w lo e i (.slice a xss.length cap) vs xss) : GRc w w.heap.size a xss := fun hp => by
  obtain ⟨b, off, rfl, hb, hc⟩ := gown_rd h hp
  refine ⟨b, off, rfl, hb, fun j hj => ?_⟩
  obtain ⟨aj, capj, h1, h2⟩ := hc j hj
  refine ⟨aj, capj, h1, ?_, h2⟩
  have hj' : j < vs.length := by rw [h.len]; exact hj
  have hu : vs[j]? = some vs[j] := List.getElem?_eq_getElem hj'
  obtain ⟨ak, capk, hv, hle, _, _⟩ := (h.own j hj vs[j] hu).form
  rcases h.row.2 with ⟨e1, _⟩ | ⟨g, cap', cur, e1, _⟩
  · cases e1
  · injection e1 with e1 e2 e3
    injection e1 with e1
    injection e1 with e1 e4
    subst e1 e4
    have hcell := h.row.cellAt j (by omega)
    rw [Nat.zero_add] at h1
    rw [hcell, hu, hv] at h1
    injection h1 with h1
    injection h1 with h1 h3 h4
    omega
end Go.Proofs.Ytfeeimbepdfadaa.GridCap
