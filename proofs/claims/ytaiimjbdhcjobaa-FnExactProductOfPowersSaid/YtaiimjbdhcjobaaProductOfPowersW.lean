/- Law FnExactProductOfPowers at every argument. -/
import Derived.Test.YtaiimjbdhcjobaaProductOfPowersC
import Derived.Test.YtaiimjbdhcjobaaPrdS
import Derived.Test.YtaiimjbdhcjobaaIntsA
namespace Go.Proofs.Ytaiimjbdhcjobaa.ProductOfPowersW
open Go.RowKit
open Go.Proofs.Ytaiimjbdhcjobaa.IntRow Go.Proofs.Ytaiimjbdhcjobaa.Rdr Go.Proofs.Ytaiimjbdhcjobaa.Rats Go.Proofs.Ytaiimjbdhcjobaa.IntsA Go.Proofs.Ytaiimjbdhcjobaa.PrdP Go.Proofs.Ytaiimjbdhcjobaa.PrdI Go.Proofs.Ytaiimjbdhcjobaa.PrdS
theorem walk (a0 : Option Addr) (cap0 : Nat) (x0 : List Int) (hn0 : x0.length ≤ 9223372036854775807) (a1 : Option Addr) (cap1 : Nat) (x1 : List Int) (hn1 : x1.length ≤ 9223372036854775807) (w : World) (r0 : Els 1 rI64 w 0 w.heap.size a0 x0) (r1 : Els 1 rI64 w 0 w.heap.size a1 x1) :
    Calls Try.prog 10 #[.slice a0 x0.length cap0, .slice a1 x1.length cap1] w fun e w' => e = .returned (.bool true) ∧ Below w.heap.size w w' :=
  ProductOfPowersC.walk a0 cap0 x0 a1 cap1 x1 w (els_rd r0) (els_rd r1) fun h0 h1 => ⟨prX x0 x1, prB x0 x1, Nat.le_trans (prX_len x0 x1) (by omega),
    fun W b0 b1 bap0 bap1 q0 q1 => spec_prd b0 b1 bap0 bap1 _ _ x0 x1 W h0 h1 (els_le r0) q0 q1 (Nat.le_refl _) (Nat.le_refl _),
    fun W b0 b1 bap0 bap1 q0 q1 => impl_prd b0 b1 bap0 bap1 _ _ x0 x1 W h0 h1 (els_le r0) q0 q1 (Nat.le_refl _) (Nat.le_refl _)⟩
end Go.Proofs.Ytaiimjbdhcjobaa.ProductOfPowersW
