/- Law FnExactFormatRationals at every argument. -/
import Derived.Test.YtgpdnleooeekbaaDoorFormatRationalsC
import Derived.Test.YtgpdnleooeekbaaDoorFmr
namespace Go.Proofs.YtgpdnleooeekbaaDoor.FormatRationalsW
open Go.RowKit
open Go.Proofs.YtgpdnleooeekbaaDoor.Rdr Go.Proofs.YtgpdnleooeekbaaDoor.Rats Go.Proofs.YtgpdnleooeekbaaDoor.LaidI Go.Proofs.YtgpdnleooeekbaaDoor.FmtP Go.Proofs.YtgpdnleooeekbaaDoor.Fmr
theorem walk (a : Option Addr) (cap : Nat) (x : List RatD) (hn : x.length ≤ 9223372036854775807) (w : World) (ht : Pow w) (r : Els 2 rRat w 0 w.heap.size a x) :
    Calls Tryd.prog 5 #[.slice a x.length cap] w fun e w' => e = .returned (.bool true) ∧ Below w.heap.size w w' :=
  FormatRationalsC.walk a cap x hn w r fun hx => ⟨_, fun W b bap h _ => spec_fmr b bap x 0 _ W hx h (Nat.le_refl _), fun W b bap h hb => impl_fmr b bap x 0 _ W hx h (Nat.le_refl _) (ht.below hb)⟩
end Go.Proofs.YtgpdnleooeekbaaDoor.FormatRationalsW
