/- Validity of tries, both sides (they are relations). -/
import Derived.Test.YtliomgoakiidfaaRelValidI
import Derived.Test.YtliomgoakiidfaaRelValidS
import Derived.Test.YtliomgoakiidfaaTriP
import Derived.Test.YtliomgoakiidfaaRelKit
namespace Go.Proofs.Ytliomgoakiidfaa.TriV
open Go.RowKit
open Go.Proofs.Ytliomgoakiidfaa.Num Go.Proofs.Ytliomgoakiidfaa.IntRow Go.Proofs.Ytliomgoakiidfaa.Vals Go.Proofs.Ytliomgoakiidfaa.Grid Go.Proofs.Ytliomgoakiidfaa.CmpL Go.Proofs.Ytliomgoakiidfaa.RowCmp Go.Proofs.Ytliomgoakiidfaa.RowCmpS Go.Proofs.Ytliomgoakiidfaa.Asc Go.Proofs.Ytliomgoakiidfaa.IntLaw Go.Proofs.Ytliomgoakiidfaa.GridMore Go.Proofs.Ytliomgoakiidfaa.GridLaw Go.Proofs.Ytliomgoakiidfaa.GridLaw2 Go.Proofs.Ytliomgoakiidfaa.Keep Go.Proofs.Ytliomgoakiidfaa.Kept Go.Proofs.Ytliomgoakiidfaa.Cells Go.Proofs.Ytliomgoakiidfaa.RelKit Go.Proofs.Ytliomgoakiidfaa.RelValidS Go.Proofs.Ytliomgoakiidfaa.RelValidI Go.Proofs.Ytliomgoakiidfaa.TriP
set_option linter.unusedVariables false

theorem impl_vtr (n : Int) (a : Option Addr) (len cap B : Nat) (xss : List (List Int)) (w : World) (hl : xss.length = len) (hlen : len ≤ 1048576) (hx : ∀ j (h : j < xss.length), xss[j].length ≤ 1048576) (h : GRd w B a xss) (hB : B ≤ w.heap.size) :
    Calls Try.prog 58 #[.agg #[.int .i64 n, .slice a len cap]] w fun e w' => e = .returned (.bool (vrel n xss)) ∧ Below w.heap.size w w' := by
  have B1 := hid ((Below.refl w.heap.size w).alloc (Nat.le_refl _) (.cells #[.int .i64 n, .slice a len cap] 26))
  have V := hid (impl_valid n a len cap B xss _ hl hlen hx (h.below (B1.out.mono hB)) (by simp; omega))
  obtain ⟨c0, c1, z1, _, _⟩ := has2_new w (.int .i64 n) (.slice a len cap) 26
  obtain ⟨v, hv⟩ : ∃ v, vrel n xss = v := ⟨_, rfl⟩
  rw [hv] at V ⊢
  clear h hx hl hlen hv
  go_enter Try.func58, Try.ntmps58
  go_wp2_with fail
  with_reducible refine V.out.mono ?_
  rintro e w' ⟨rfl, hb⟩
  have HB := hid (B1.out.trans (hb.mono (by simp)))
  clear hb
  go_wp2
  go_ret
  exact ⟨rfl, HB.out⟩

theorem spec_rel (n : Int) (a : Option Addr) (len cap : Nat) (w : World) :
    Calls Try.prog 64 #[.agg #[.int .i64 n, .slice a len cap]] w fun e w' => e = .returned (.agg #[.int .i64 n, .slice a len cap]) ∧ Below w.heap.size w w' := by
  have B3 := hid (((Below.refl w.heap.size w).alloc (Nat.le_refl _) (.cells #[.int .i64 n, .slice a len cap] 26)).alloc (by simp) (.cells #[.int .i64 n, .slice a len cap] 70))
  have K2 := has2_new (w.alloc (.cells #[.int .i64 n, .slice a len cap] 26)) (.int .i64 n) (.slice a len cap) 70
  simp only [World.size_alloc] at K2
  go_enter Try.func64, Try.ntmps64
  go_wp2
  exact bodyPost_ret (v := .agg #[.int .i64 n, .slice a len cap]) (by simp [results, Try.results64, go_sem, K2.1, K2.2.1]) rfl ⟨rfl, B3.out⟩

theorem spec_vtr (n : Int) (a : Option Addr) (len cap B : Nat) (xss : List (List Int)) (w : World) (hl : xss.length = len) (hlen : len ≤ 1048576) (hx : ∀ j (h : j < xss.length), xss[j].length ≤ 1048576) (h : GRd w B a xss) (hB : B ≤ w.heap.size) :
    Calls Try.prog 60 #[.agg #[.int .i64 n, .slice a len cap]] w fun e w' => e = .returned (.bool (vrel n xss)) ∧ Below w.heap.size w w' := by
  have B1 := hid ((Below.refl w.heap.size w).alloc (Nat.le_refl _) (.cells #[.int .i64 n, .slice a len cap] 26))
  have HG := hid h
  have L := hid (spec_rel n a len cap (w.alloc (.cells #[.int .i64 n, .slice a len cap] 26)))
  obtain ⟨c0, c1, z1, _, _⟩ := has2_new w (.int .i64 n) (.slice a len cap) 26
  have HX := hid hx
  have HL := hid hl
  obtain ⟨v, hv⟩ : ∃ v, vrel n xss = v := ⟨_, rfl⟩
  rw [hv]
  have HV := hid hv
  clear hv
  clear h hx hl
  go_enter Try.func60, Try.ntmps60
  go_wp2_with fail
  with_reducible refine L.out.mono ?_
  rintro e w2 ⟨rfl, hb⟩
  replace B1 := hid (B1.out.trans (hb.mono (by simp)))
  clear hb c0 c1 z1
  have hs := B1.out.size
  have V := hid (spec_valid n a len cap B xss w2 HL.out hlen HX.out (HG.out.below (B1.out.mono hB)) (by omega))
  rw [HV.out] at V
  go_wp2_with fail
  with_reducible refine V.out.mono ?_
  rintro e w3 ⟨rfl, hb⟩
  have HB := hid (B1.out.trans (hb.mono hs))
  clear hb
  go_wp2
  go_ret
  exact ⟨rfl, HB.out⟩
end Go.Proofs.Ytliomgoakiidfaa.TriV
