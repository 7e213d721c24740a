/-
  The maker of rationals returns the normal form of the quotient and fails for a zero denominator: law FnRationalNormalForm is true. No condition.
-/
import Derived.Test.YtbnnigaepkpfbaaRows
import Derived.Test.YtbnnigaepkpfbaaStep
import Derived.Test.YtbnnigaepkpfbaaRatLaw
import Derived.Test.YtbnnigaepkpfbaaCells
import Derived.Test.YtbnnigaepkpfbaaOps
import Derived.Test.YtbnnigaepkpfbaaDrawNew
import Derived.Test.YtbnnigaepkpfbaaBig
import Derived.Test.YtbnnigaepkpfbaaCodeArg
namespace Go.Proofs.Ytbnnigaepkpfbaa.RationalNormalForm
open Go.ChangeShapes Go.WideShapes Go.ChangeAt Go.RowKit
open Go.Proofs.Ytbnnigaepkpfbaa.Num Go.Proofs.Ytbnnigaepkpfbaa.Rat Go.Proofs.Ytbnnigaepkpfbaa.New Go.Proofs.Ytbnnigaepkpfbaa.RatLaw Go.Proofs.Ytbnnigaepkpfbaa.Cells Go.Proofs.Ytbnnigaepkpfbaa.Ops Go.Proofs.Ytbnnigaepkpfbaa.DrawNew Go.Proofs.Ytbnnigaepkpfbaa.Big
set_option linter.unusedVariables false

theorem nok_small {n d : Int} (h0 : d ≠ 0) (h1 : -3000000 ≤ n) (h2 : n ≤ 3000000) (h3 : -3000000 ≤ d) (h4 : d ≤ 3000000) : nok n d = true := by
  have hx := nx_bd n d _ h1 h2
  have hy := ny_bd n d _ h3 h4
  have hp := ny_pos (n := n) h0
  unfold nok
  rw [fits_mk h0 (by omega) (by omega) (by omega) (by omega), vr_mk hp (by omega) (by omega) (by omega) (ncop h0)]
  rfl
theorem cross {n d : Int} : nx n d * d = n * ny n d := by
  have h1 := nx_mul n d
  have h2 := ny_mul n d
  calc nx n d * d = nx n d * (ny n d * gd n d) := by rw [h2]
    _ = nx n d * gd n d * ny n d := by rw [Int.mul_comm (ny n d), Int.mul_assoc]
    _ = n * ny n d := by rw [h1]
theorem triple {n d : Int} (h0 : d ≠ 0) : nx (3 * n) (3 * d) = nx n d ∧ ny (3 * n) (3 * d) = ny n d :=
  nuniq (by omega) (ny_pos h0) (ncop h0) (by
    have := cross (n := n) (d := d)
    rw [Int.mul_left_comm, this, Int.mul_assoc])

def Made (f : FuncId) (n d X Y : Int) (b : Bool) : Prop := ∀ W, Calls Try.prog f #[.int .i64 n, .int .i64 d] W fun e w' => e = .returned (.tuple #[.agg #[.int .i64 X, .int .i64 Y], .bool b]) ∧ Below W.heap.size W w'

set_option maxRecDepth 100000 in
set_option maxHeartbeats 4000000 in
theorem core (w : World) (sv : Value) (HG : RowKit.Hid (Calls Try.prog 12 #[sv] w fun e w' => e = .returned (.bool false) ∧ w = w'))
    (HD : RowKit.Hid (Calls Try.prog 23 #[sv] w (TwoInts w))) :
    Calls Try.prog 4 #[sv] w fun e w' => e = .returned (.bool true) ∧ Below w.heap.size w w' := by
  go_enter Try.func4, Try.ntmps4
  go_wp2_with fail
  refine HG.out.mono ?_
  rintro e w0 ⟨rfl, rfl⟩
  go_wp2_with fail
  refine HD.out.mono ?_
  rintro e w1 ⟨n, d, rfl, ⟨hn0, hn1⟩, ⟨hd0, hd1⟩, hb1⟩
  have z1 := hb1.size
  have B1 := hid hb1
  clear hb1
  have I := hid fun W => impl_new n d W hn0 hn1 hd0 hd1
  have S := hid fun W => spec_new n d W hn0 hn1 hd0 hd1
  simp only [ratEnd_is] at S I
  by_cases hbig : 1000000 < n ∨ n < -1000000 ∨ 1000000 < d ∨ d < -1000000
  · generalize rx (nok n d) (nx n d) = X at S I
    generalize rx (nok n d) (ny n d) = Y at S I
    generalize nok n d = b at S I
    go_wp2_with fail
    refine (I.out _).mono ?_
    rintro e w2 ⟨rfl, hb2⟩
    have B2 := hid (B1.out.trans (hb2.mono z1))
    have z2 := B2.out.size
    have K2 := hid (has2_new w2 (.int .i64 X) (.int .i64 Y) 25)
    clear hb2
    go_wp2_with fail
    refine (S.out _).mono ?_
    rintro e w3 ⟨rfl, hb3⟩
    have K3 := hid (K2.out.below hb3)
    have B3 := hid ((B2.out.alloc z2 _).trans (hb3.mono (by simp; omega)))
    have z3 := B3.out.size
    obtain ⟨k0, k1, kz, _, _⟩ := K3.out
    clear hb3
    go_wp2_with fail
    all_goals
      go_ret
      exact ⟨rfl, B3.out.alloc (by omega) _⟩
  · obtain ⟨s0, s1, s2, s3⟩ : -1000000 ≤ n ∧ n ≤ 1000000 ∧ -1000000 ≤ d ∧ d ≤ 1000000 := by omega
    clear hbig
    by_cases hz : d = 0
    · subst hz
      have e0 : nok n 0 = false := by simp [nok, fits]
      have e3 : nok (3 * n) 0 = false := by simp [nok, fits]
      have C := hid fun W => impl_new (3 * n) 0 W (by omega) (by omega) (by omega) (by omega)
      simp only [ratEnd_is] at C
      rw [e0] at S I
      rw [e3] at C
      have hf : ∀ x, rx false x = 0 := fun x => rfl
      rw [hf, hf] at S I C
      clear e0 e3 hf
      go_wp2_with fail
      refine (I.out _).mono ?_
      rintro e w2 ⟨rfl, hb2⟩
      have B2 := hid (B1.out.trans (hb2.mono z1))
      have z2 := B2.out.size
      have K2 := hid (has2_new w2 (.int .i64 0) (.int .i64 0) 25)
      clear hb2
      go_wp2_with fail
      refine (S.out _).mono ?_
      rintro e w3 ⟨rfl, hb3⟩
      have K3 := hid (K2.out.below hb3)
      have B3 := hid ((B2.out.alloc z2 _).trans (hb3.mono (by simp; omega)))
      have z3 := B3.out.size
      obtain ⟨k0, k1, kz, _, _⟩ := K3.out
      clear hb3
      go_wp2_with fail
      refine (C.out _).mono ?_
      rintro e w4 ⟨rfl, hb4⟩
      have B4 := hid ((B3.out.alloc (by omega) _).trans (hb4.mono (by simp; omega)))
      have z4 := hb4.size
      clear hb4
      go_wp2_with fail
      go_ret
      exact ⟨rfl, B4.out.alloc (by simp at z4; omega) _⟩
    · have e0 : nok n d = true := nok_small hz (by omega) (by omega) (by omega) (by omega)
      have e3 : nok (3 * n) (3 * d) = true := nok_small (by omega) (by omega) (by omega) (by omega) (by omega)
      have C := hid fun W => impl_new (3 * n) (3 * d) W (by omega) (by omega) (by omega) (by omega)
      simp only [ratEnd_is] at C
      rw [e0] at S I
      rw [e3, (triple hz).1, (triple hz).2] at C
      have hf : ∀ x, rx true x = x := fun x => rfl
      rw [hf, hf] at S I C
      clear e0 e3 hf
      have hX := nx_bd n d _ s0 s1
      have hY := ny_bd n d _ s2 s3
      have hp := ny_pos (n := n) hz
      have hc := cross (n := n) (d := d)
      generalize nx n d = X at S I C hX hc
      generalize ny n d = Y at S I C hY hp hc
      have m1 := mul_bd (x := X) (v := d) (by omega) (by omega) (by omega) (by omega)
      have m2 := mul_bd (x := n) (v := Y) (by omega) (by omega) (by omega) (by omega)
      have hq : (X * d == n * Y) = true := by rw [hc]; simp
      have hd : (d != 0) = true := by simpa using hz
      have HZ := hid hz
      clear hz hc
      go_wp2_with fail
      refine (I.out _).mono ?_
      rintro e w2 ⟨rfl, hb2⟩
      have B2 := hid (B1.out.trans (hb2.mono z1))
      have z2 := B2.out.size
      have K2 := hid (has2_new w2 (.int .i64 X) (.int .i64 Y) 25)
      clear hb2
      go_wp2_with fail
      refine (S.out _).mono ?_
      rintro e w3 ⟨rfl, hb3⟩
      have K3 := hid (K2.out.below hb3)
      have B3 := hid ((B2.out.alloc z2 _).trans (hb3.mono (by simp; omega)))
      have z3 := B3.out.size
      obtain ⟨k0, k1, kz, _, _⟩ := K3.out
      clear hb3
      go_wp2_with fail
      clear k0 k1
      refine (C.out _).mono ?_
      rintro e w4 ⟨rfl, hb4⟩
      have B4 := hid ((B3.out.alloc (by omega) _).trans (hb4.mono (by simp; omega)))
      have z4 := hb4.size
      simp only [World.size_alloc] at z4
      obtain ⟨k0, k1, kz2, _, _⟩ := (K3.out.alloc (.cells #[.int .i64 X, .int .i64 Y] 25)).below hb4
      clear hb4
      go_wp2_with fail
      go_ret
      exact ⟨rfl, B4.out.alloc (by omega) _⟩

theorem walk (W : World) (sv : Value) (l : List UInt8) (hl : l.length ≤ 1048576) (hc : Cur.Code W W.heap.size sv l) :
    Calls Try.prog 4 #[sv] W fun e w' => e = .returned (.bool true) ∧ Below W.heap.size W w' :=
  core W sv (big_code sv l W _ hc hl) (draw_new W sv l hl hc)

theorem walk_big (W : World) (a : Option Addr) (n cap : Nat) (h : 1048576 < n) (h2 : n ≤ 9223372036854775807) :
    Calls Try.prog 4 #[.slice a n cap] W fun e w' => e = .returned (.bool true) ∧ Below W.heap.size W w' := by
  go_enter Try.func4, Try.ntmps4
  go_wp2_with fail
  refine (big_yes a n cap _ h h2).mono ?_
  rintro e w0 ⟨rfl, rfl⟩
  go_wp2_with fail
  go_ret
  exact ⟨rfl, Below.refl _ _⟩

theorem own : ownKnob Try.prog.godebug = none := by kernel_rfl
theorem laidOut : laidOutB Try.prog = true := by kernel_rfl

theorem cellsByte : Try.prog.cellsOf 5 = 1 := by kernel_rfl

set_option maxRecDepth 100000 in
theorem lifted (os : Os) (started : os.Started) (H : Type) (enc : TypeId × Value → H) :
    ReturnsInHanded {} Try.checked os 4 .any (Rows.fnRationalNormalFormSpec.pre6 enc Try.prog Try.f4 Rows.fnRationalNormalFormRow.domain false) (Rows.fnRationalNormalFormSpec.post enc Try.prog Try.f4 false true false false) := by
  refine returnsInHanded_of_change (C := Try.checked) own started (by kernel_rfl) Try.func4
    (ChangeSpec.witness6 (enc := enc) (C := Try.checked) false ⟨#[], #[.slice none 0 0], []⟩ 8 (by kernel_rfl) (by kernel_rfl) (by kernel_rfl) (by kernel_rfl)) ?_
  intro W base args ds gs before hval0 hW hcnd _
  have hval : ∀ (j : Nat) t v, Try.f4.params[j]? = some t → args[j]? = some v → Value.okWide Try.prog W .any 0 t v := fun j t v h1 h2 => (hval0 j t v h1 h2)
  have hW' := hW
  obtain ⟨p, q, hA0, hV, rfl, hfz, hnd⟩ := hW
  have hA : DataW.TrodAll enc Try.prog W 0 (fun _ => true) true Try.f4.params.toList args.toList ds p := hA0
  rw [Try.params4] at hA hval
  obtain ⟨v0, vs0, d0, ds0, p0, q0, hargs, rfl, rfl, h0, r0⟩ := trodAll_cons hA
  obtain ⟨rfl, rfl, rfl⟩ := trodAll_nil r0
  obtain rfl : args = #[v0] := by cases args; simp_all
  have hend : ∀ W', Below W.heap.size W W' → Rows.fnRationalNormalFormSpec.post enc Try.prog Try.f4 false true false false W #[v0] (.bool true) W' := fun W' hb =>
    Step.post_true laidOut (by kernel_rfl) (by rfl) Try.underlying4 hW' rfl rfl rfl rfl hb
  rcases CodeArg.open_code Try.underlying22 Try.underlying5 cellsByte (hval 0 22 v0 rfl rfl) h0 with ⟨l, hl, hc⟩ | ⟨a, n, cap, rfl, h1, h2⟩
  · refine (walk W v0 l hl hc).mono fun e W' ⟨he, bel⟩ => ?_
    subst he
    exact ⟨_, rfl, hend W' bel⟩
  · refine (walk_big W a n cap h1 h2).mono fun e W' ⟨he, bel⟩ => ?_
    subst he
    exact ⟨_, rfl, hend W' bel⟩

theorem proved : Rows.FnRationalNormalFormSaid :=
  OpenClaim.holds_of_wide 4 Try.f4 rfl rfl rfl rfl rfl rfl rfl ⟨rfl, rfl, rfl, rfl, rfl⟩ rfl rfl rfl rfl rfl (by kernel_rfl) Try.func4 (by kernel_rfl)
    (of_decide_eq_true (by kernel_rfl)) (by unfold Func.isWrapper; first | (rw [if_pos (by decide +kernel)]; kernel_rfl) | (rw [if_neg (by decide +kernel)]; exact ⟨rfl, rfl⟩))
    (fun os started H enc _ => lifted os started H enc)
#print axioms proved

end Go.Proofs.Ytbnnigaepkpfbaa.RationalNormalForm
