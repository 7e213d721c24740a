/- Law FnExactIsWithinAGMBound at every argument. -/
import Derived.Test.YtaiimjbdhcjobaaIsWithinAGMBoundC
import Derived.Test.YtaiimjbdhcjobaaAgmI
namespace Go.Proofs.Ytaiimjbdhcjobaa.IsWithinAGMBoundW
open Go.RowKit
open Go.Proofs.Ytaiimjbdhcjobaa.IntRow Go.Proofs.Ytaiimjbdhcjobaa.Rdr Go.Proofs.Ytaiimjbdhcjobaa.Rats Go.Proofs.Ytaiimjbdhcjobaa.IntsA Go.Proofs.Ytaiimjbdhcjobaa.AgmI
theorem walk (a0 : Option Addr) (cap0 : Nat) (x0 : List Int) (_ : x0.length ≤ 9223372036854775807) (a1 : Option Addr) (cap1 : Nat) (x1 : List RatD) (hn1 : x1.length ≤ 9223372036854775807) (n2 : Int) (hn2 : -9223372036854775808 ≤ n2 ∧ n2 ≤ 9223372036854775807) (w : World) (r0 : Els 1 rI64 w 0 w.heap.size a0 x0) (r1 : Els 2 rRat w 0 w.heap.size a1 x1) :
    Calls Try.prog 11 #[.slice a0 x0.length cap0, .slice a1 x1.length cap1, .int .i64 n2] w fun e w' => e = .returned (.bool true) ∧ Below w.heap.size w w' :=
  IsWithinAGMBoundC.walk a0 cap0 x0 a1 cap1 x1 n2 w hn1 (els_rd r0) r1 fun h0 h1 => ⟨within x0 x1 n2,
    fun W b0 bap0 b1 bap1 q0 q1 => spec_within b0 b1 bap0 bap1 x0 x1 n2 W h0 h1 (els_le r0) hn2.2 q0 q1,
    fun W b0 bap0 b1 bap1 q0 q1 => impl_within b0 b1 bap0 bap1 x0 x1 n2 W h0 h1 (els_le r0) hn2.2 q0 q1⟩
end Go.Proofs.Ytaiimjbdhcjobaa.IsWithinAGMBoundW
