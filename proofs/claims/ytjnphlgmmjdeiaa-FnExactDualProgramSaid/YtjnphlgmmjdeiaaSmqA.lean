/- The addition of two rationals, as an option; whole numbers. -/
import Derived.Test.YtjnphlgmmjdeiaaSmq
import Derived.Test.YtjnphlgmmjdeiaaOpsImpl
import Derived.Test.YtjnphlgmmjdeiaaOpsSpec
namespace Go.Proofs.Ytjnphlgmmjdeiaa.SmqI
open Go.RowKit
open Go.Proofs.Ytjnphlgmmjdeiaa.Num Go.Proofs.Ytjnphlgmmjdeiaa.IntRow Go.Proofs.Ytjnphlgmmjdeiaa.Rdr Go.Proofs.Ytjnphlgmmjdeiaa.HasL Go.Proofs.Ytjnphlgmmjdeiaa.Rat Go.Proofs.Ytjnphlgmmjdeiaa.RatLaw Go.Proofs.Ytjnphlgmmjdeiaa.Rats Go.Proofs.Ytjnphlgmmjdeiaa.Smq Go.Proofs.Ytjnphlgmmjdeiaa.Keep Go.Proofs.Ytjnphlgmmjdeiaa.Kept Go.Proofs.Ytjnphlgmmjdeiaa.OpsImpl Go.Proofs.Ytjnphlgmmjdeiaa.OpsSpec
set_option linter.unusedVariables false

def endQ (o : Option RatD) : Ending := .returned (.tuple #[.agg #[.int .i64 (fstQ o), .int .i64 (sndQ o)], .bool (okQ o)])
theorem endQ_some (p : RatD) : endQ (some p) = .returned (.tuple #[.agg #[.int .i64 p.1, .int .i64 p.2], .bool true]) := rfl
theorem endQ_none : endQ none = .returned (.tuple #[.agg #[.int .i64 0, .int .i64 0], .bool false]) := rfl
theorem impl_addQ (p q : RatD) (w : World) (hp : vr p.1 p.2 = true) (h1 : Ib q.1) (h2 : Ib q.2) : Calls Try.prog 79 #[.agg #[.int .i64 p.1, .int .i64 p.2], .agg #[.int .i64 q.1, .int .i64 q.2]] w fun e w' => e = endQ (addQ p q) ∧ Below w.heap.size w w' := by
  have hb := vr_true hp
  by_cases hq : vr q.1 q.2 = true
  · refine (impl_add_yes p.1 p.2 q.1 q.2 w hp hq).mono ?_
    rintro e w' ⟨he, hw⟩
    refine ⟨he.trans ?_, hw⟩
    unfold addQ
    rw [hp, hq, Bool.and_self, if_pos rfl]
    cases hn : nok (p.1 * q.2 + q.1 * p.2) (p.2 * q.2) with
    | true => rw [if_pos rfl]; rfl
    | false => rw [if_neg (by decide)]; rfl
  · have hq' : vr q.1 q.2 = false := by simpa using hq
    refine (impl_add_no p.1 p.2 q.1 q.2 w (by omega) (by omega) h1 h2 (by rw [hq', Bool.and_false])).mono ?_
    rintro e w' ⟨he, hw⟩
    refine ⟨he.trans ?_, hw⟩
    unfold addQ
    rw [hq', Bool.and_false, if_neg (by decide)]
    rfl
theorem spec_addQ (p q : RatD) (w : World) (hp : vr p.1 p.2 = true) (h1 : Ib q.1) (h2 : Ib q.2) : Calls Try.prog 121 #[.agg #[.int .i64 p.1, .int .i64 p.2], .agg #[.int .i64 q.1, .int .i64 q.2]] w fun e w' => e = endQ (addQ p q) ∧ Below w.heap.size w w' := by
  have hb := vr_true hp
  by_cases hq : vr q.1 q.2 = true
  · refine (spec_add_yes p.1 p.2 q.1 q.2 w hp hq).mono ?_
    rintro e w' ⟨he, hw⟩
    refine ⟨he.trans ?_, hw⟩
    unfold addQ
    rw [hp, hq, Bool.and_self, if_pos rfl]
    cases hn : nok (p.1 * q.2 + q.1 * p.2) (p.2 * q.2) with
    | true => rw [if_pos rfl]; rfl
    | false => rw [if_neg (by decide)]; rfl
  · have hq' : vr q.1 q.2 = false := by simpa using hq
    refine (spec_add_no p.1 p.2 q.1 q.2 w (by omega) (by omega) h1 h2 (by rw [hq', Bool.and_false])).mono ?_
    rintro e w' ⟨he, hw⟩
    refine ⟨he.trans ?_, hw⟩
    unfold addQ
    rw [hq', Bool.and_false, if_neg (by decide)]
    rfl
theorem whole (n : Int) (w : World) : Calls Try.prog 77 #[.int .i64 n] w fun e w' => e = .returned (.agg #[.int .i64 n, .int .i64 1]) ∧ Below w.heap.size w w' := by
  go_enter Try.func77, Try.ntmps77
  go_wp2
  refine bodyPost_ret (v := .agg #[.int .i64 n, .int .i64 1]) (by simp [results, Try.results77, go_sem]) rfl ⟨rfl, ?_⟩
  exact (Below.refl w.heap.size w).alloc (Nat.le_refl _) _
end Go.Proofs.Ytjnphlgmmjdeiaa.SmqI
