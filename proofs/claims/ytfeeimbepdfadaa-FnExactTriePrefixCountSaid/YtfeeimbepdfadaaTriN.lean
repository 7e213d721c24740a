/- The number of the rows with a prefix, both sides. -/
import Derived.Test.YtfeeimbepdfadaaTriI
import Derived.Test.YtfeeimbepdfadaaTriS
namespace Go.Proofs.Ytfeeimbepdfadaa.TriN
open Go.RowKit
open Go.Proofs.Ytfeeimbepdfadaa.Num Go.Proofs.Ytfeeimbepdfadaa.IntRow Go.Proofs.Ytfeeimbepdfadaa.Vals Go.Proofs.Ytfeeimbepdfadaa.Grid Go.Proofs.Ytfeeimbepdfadaa.IntLaw Go.Proofs.Ytfeeimbepdfadaa.GridMore Go.Proofs.Ytfeeimbepdfadaa.GridLaw Go.Proofs.Ytfeeimbepdfadaa.GridLaw2 Go.Proofs.Ytfeeimbepdfadaa.Keep Go.Proofs.Ytfeeimbepdfadaa.Kept Go.Proofs.Ytfeeimbepdfadaa.Cells Go.Proofs.Ytfeeimbepdfadaa.RelKit Go.Proofs.Ytfeeimbepdfadaa.GridCap Go.Proofs.Ytfeeimbepdfadaa.TriP Go.Proofs.Ytfeeimbepdfadaa.TriI Go.Proofs.Ytfeeimbepdfadaa.TriS
set_option linter.unusedVariables false

def cntP (n : Int) (xss : List (List Int)) (p : List Int) : Int := (rhi n xss p : Int) - (rlo n xss p : Int)

set_option maxRecDepth 100000 in
theorem impl_tcn (n : Int) (a b : Option Addr) (cap capb B B' : Nat) (xss : List (List Int)) (p : List Int) (w : World) (hlen : xss.length ≤ 1048576) (hx : ∀ j (h : j < xss.length), xss[j].length ≤ 1048576) (hp : p.length ≤ 1048576) (h : GRc w B a xss) (h' : Rd w B' b p) (hB : B ≤ w.heap.size) (hB' : B' ≤ w.heap.size) :
    Calls Try.prog 20 #[.agg #[.int .i64 n, .slice a xss.length cap], .slice b p.length capb] w fun e w' => e = .returned (.int .i64 (cntP n xss p)) ∧ Below w.heap.size w w' := by
  have B2 := hid ((Below.refl w.heap.size w).alloc (Nat.le_refl _) (.cells #[.int .i64 n, .slice a xss.length cap] 30))
  have R := hid (impl_trg n a b cap capb B B' xss p _ hlen hx hp (h.below (B2.out.mono hB)) (h'.below (B2.out.mono hB')) (by have := B2.out.size; omega) (by have := B2.out.size; omega))
  have h1 := rlo_rhi n xss p
  have h2 := rhi_le n xss p
  obtain ⟨c0, c1, z1, _, _⟩ := has2_new w (.int .i64 n) (.slice a xss.length cap) 30
  unfold cntP
  obtain ⟨lo, hlo⟩ : ∃ z, rlo n xss p = z := ⟨_, rfl⟩
  obtain ⟨hi, hhi⟩ : ∃ z, rhi n xss p = z := ⟨_, rfl⟩
  rw [hlo, hhi] at R h1 ⊢
  rw [hhi] at h2
  clear hlo hhi h h' hx
  go_enter Try.func20, Try.ntmps20
  go_wp2_with fail
  with_reducible refine R.out.mono ?_
  rintro e w3 ⟨rfl, hb⟩
  replace B2 := hid (B2.out.trans (hb.mono B2.out.size))
  clear hb
  have hw : IntKind.i64.wrap ((hi : Int) - (lo : Int)) = (hi : Int) - (lo : Int) := IntWalk.i64_in _ (by omega)
  go_wp2
  go_ret
  exact ⟨by first | rfl | simp [hw], B2.out⟩

set_option maxRecDepth 100000 in
theorem spec_tcn (n : Int) (a b : Option Addr) (cap capb B B' : Nat) (xss : List (List Int)) (p : List Int) (w : World) (hlen : xss.length ≤ 1048576) (hx : ∀ j (h : j < xss.length), xss[j].length ≤ 1048576) (hp : p.length ≤ 1048576) (h : GRc w B a xss) (h' : Rd w B' b p) (hB : B ≤ w.heap.size) (hB' : B' ≤ w.heap.size) :
    Calls Try.prog 40 #[.agg #[.int .i64 n, .slice a xss.length cap], .slice b p.length capb] w fun e w' => e = .returned (.int .i64 (cntP n xss p)) ∧ Below w.heap.size w w' := by
  have B2 := hid ((Below.refl w.heap.size w).alloc (Nat.le_refl _) (.cells #[.int .i64 n, .slice a xss.length cap] 30))
  have R := hid (spec_trg n a b cap capb B B' xss p _ hlen hx hp (h.below (B2.out.mono hB)) (h'.below (B2.out.mono hB')) (by have := B2.out.size; omega) (by have := B2.out.size; omega))
  have h1 := rlo_rhi n xss p
  have h2 := rhi_le n xss p
  obtain ⟨c0, c1, z1, _, _⟩ := has2_new w (.int .i64 n) (.slice a xss.length cap) 30
  unfold cntP
  obtain ⟨lo, hlo⟩ : ∃ z, rlo n xss p = z := ⟨_, rfl⟩
  obtain ⟨hi, hhi⟩ : ∃ z, rhi n xss p = z := ⟨_, rfl⟩
  rw [hlo, hhi] at R h1 ⊢
  rw [hhi] at h2
  clear hlo hhi h h' hx
  go_enter Try.func40, Try.ntmps40
  go_wp2_with fail
  with_reducible refine R.out.mono ?_
  rintro e w3 ⟨rfl, hb⟩
  replace B2 := hid (B2.out.trans (hb.mono B2.out.size))
  clear hb
  have hw : IntKind.i64.wrap ((hi : Int) - (lo : Int)) = (hi : Int) - (lo : Int) := IntWalk.i64_in _ (by omega)
  go_wp2
  go_ret
  exact ⟨by first | rfl | simp [hw], B2.out⟩
end Go.Proofs.Ytfeeimbepdfadaa.TriN
