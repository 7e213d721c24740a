/- Plain facts and contracts for law FnRationalArithmetic. -/
import Derived.Test.YthghggnlfnbbgaaOpsImpl
import Derived.Test.YthghggnlfnbbgaaOpsSpec
import Derived.Test.YthghggnlfnbbgaaCmpCalls
import Derived.Test.YthghggnlfnbbgaaRatLaw
namespace Go.Proofs.Ythghggnlfnbbgaa.RatArithP
open Go.RowKit
open Go.Proofs.Ythghggnlfnbbgaa.Num Go.Proofs.Ythghggnlfnbbgaa.Rat Go.Proofs.Ythghggnlfnbbgaa.Gcd Go.Proofs.Ythghggnlfnbbgaa.Valid Go.Proofs.Ythghggnlfnbbgaa.New Go.Proofs.Ythghggnlfnbbgaa.NewSpec Go.Proofs.Ythghggnlfnbbgaa.RatLaw Go.Proofs.Ythghggnlfnbbgaa.Ops Go.Proofs.Ythghggnlfnbbgaa.OpsImpl Go.Proofs.Ythghggnlfnbbgaa.OpsSpec Go.Proofs.Ythghggnlfnbbgaa.CmpCalls
set_option linter.unusedVariables false

theorem cross (n d : Int) : nx n d * d = n * ny n d := by
  have h1 := nx_mul n d
  have h2 := ny_mul n d
  calc nx n d * d = nx n d * (ny n d * gd n d) := by rw [h2]
    _ = nx n d * gd n d * ny n d := by rw [Int.mul_comm (ny n d), Int.mul_assoc]
    _ = n * ny n d := by rw [h1]
theorem nok_parts {n d : Int} (h : nok n d = true) : fits n d = true ∧ vr (nx n d) (ny n d) = true := by
  unfold nok at h
  rwa [Bool.and_eq_true] at h
theorem nok_mk {n d a b : Int} (hf : fits n d = true) (h : nx n d = a ∧ ny n d = b) (hv : vr a b = true) : nok n d = true := by
  unfold nok
  rw [h.1, h.2, hf, hv]
  rfl
theorem sub_back {x y u v : Int} (h1 : vr x y = true) (h2 : vr u v = true) (hok : nok (x * v + u * y) (y * v) = true) :
    nok (nx (x * v + u * y) (y * v) * v - u * ny (x * v + u * y) (y * v)) (ny (x * v + u * y) (y * v) * v) = true ∧
    nx (nx (x * v + u * y) (y * v) * v - u * ny (x * v + u * y) (y * v)) (ny (x * v + u * y) (y * v) * v) = x ∧
    ny (nx (x * v + u * y) (y * v) * v - u * ny (x * v + u * y) (y * v)) (ny (x * v + u * y) (y * v) * v) = y := by
  obtain ⟨a0, a1, a2, a3, a4⟩ := vr_true h1
  obtain ⟨b0, b1, b2, b3, b4⟩ := vr_true h2
  have hc := cross (x * v + u * y) (y * v)
  obtain ⟨hf, hv⟩ := nok_parts hok
  generalize nx (x * v + u * y) (y * v) = X at hc hv ⊢
  generalize ny (x * v + u * y) (y * v) = Y at hc hv ⊢
  obtain ⟨c0, c1, c2, c3, _⟩ := vr_true hv
  have m1 := mul_bd (x := X) (v := v) (by omega) (by omega) (by omega) (by omega)
  have m2 := mul_bd (x := u) (v := Y) (by omega) (by omega) (by omega) (by omega)
  have m3 := mul_bd (x := Y) (v := v) (by omega) (by omega) (by omega) (by omega)
  have m4 : 1 ≤ Y * v := by have := Int.mul_le_mul c0 b0 (by omega) (by omega); omega
  have e : x * (Y * v) = (X * v - u * Y) * y := by
    have e1 : (X * v - u * Y) * y = X * (y * v) - u * Y * y := by rw [Int.sub_mul, Int.mul_assoc, Int.mul_comm v y]
    have e2 : (x * v + u * y) * Y = x * (Y * v) + u * Y * y := by rw [Int.add_mul, Int.mul_assoc, Int.mul_comm v Y, Int.mul_assoc u y Y, Int.mul_comm y Y, ← Int.mul_assoc u Y y]
    omega
  have hn := nuniq (n := X * v - u * Y) (d := Y * v) (by omega) a0 a4 e
  exact ⟨nok_mk (fits_mk (by omega) (by omega) (by omega) (by omega) (by omega)) hn h1, hn.1, hn.2⟩
theorem div_back {x y u v : Int} (h1 : vr x y = true) (h2 : vr u v = true) (hu : u ≠ 0) (hok : nok (x * u) (y * v) = true) :
    nok (nx (x * u) (y * v) * v) (ny (x * u) (y * v) * u) = true ∧ nx (nx (x * u) (y * v) * v) (ny (x * u) (y * v) * u) = x ∧ ny (nx (x * u) (y * v) * v) (ny (x * u) (y * v) * u) = y := by
  obtain ⟨a0, a1, a2, a3, a4⟩ := vr_true h1
  obtain ⟨b0, b1, b2, b3, b4⟩ := vr_true h2
  have hc := cross (x * u) (y * v)
  obtain ⟨hf, hv⟩ := nok_parts hok
  generalize nx (x * u) (y * v) = X at hc hv ⊢
  generalize ny (x * u) (y * v) = Y at hc hv ⊢
  obtain ⟨c0, c1, c2, c3, _⟩ := vr_true hv
  have m1 := mul_bd (x := X) (v := v) (by omega) (by omega) (by omega) (by omega)
  have m2 := mul_bd (x := Y) (v := u) (by omega) (by omega) (by omega) (by omega)
  have hd : Y * u ≠ 0 := Int.mul_ne_zero (by omega) hu
  have e : x * (Y * u) = X * v * y := by
    rw [Int.mul_assoc X v y, Int.mul_comm v y, hc, Int.mul_assoc x u Y, Int.mul_comm u Y]
  have hn := nuniq (n := X * v) (d := Y * u) hd a0 a4 e
  exact ⟨nok_mk (fits_mk hd (by omega) (by omega) (by omega) (by omega)) hn h1, hn.1, hn.2⟩
theorem sign_of {n d D E : Int} (h : D * d = n * E) (hd : 1 ≤ d) (hE : 1 ≤ E) : ((D < 0) ↔ (n < 0)) ∧ ((D = 0) ↔ (n = 0)) := by
  have key : ∀ {a b p q : Int}, a * p = b * q → 1 ≤ p → 1 ≤ q → a < 0 → b < 0 := by
    intro a b p q h hp hq ha
    have h1 : a * p < 0 := Int.mul_neg_of_neg_of_pos ha (by omega)
    rcases Int.lt_or_le b 0 with hb | hb
    · exact hb
    · have := Int.mul_nonneg hb (show 0 ≤ q by omega); omega
  have kz : ∀ {a b p q : Int}, a * p = b * q → 1 ≤ p → 1 ≤ q → a = 0 → b = 0 := by
    intro a b p q h hp hq ha
    rw [ha, Int.zero_mul] at h
    rcases Int.mul_eq_zero.1 h.symm with h1 | h1
    · exact h1
    · omega
  exact ⟨⟨key h hd hE, key h.symm hE hd⟩, ⟨kz h hd hE, kz h.symm hE hd⟩⟩

def Op2 (f : FuncId) (x y u v X Y : Int) (b : Bool) : Prop := ∀ W, Calls Try.prog f #[.agg #[.int .i64 x, .int .i64 y], .agg #[.int .i64 u, .int .i64 v]] W fun e w' => e = .returned (.tuple #[.agg #[.int .i64 X, .int .i64 Y], .bool b]) ∧ Below W.heap.size W w'
def Cmp2 (x y u v c : Int) : Prop := ∀ W, Calls Try.prog 49 #[.agg #[.int .i64 x, .int .i64 y], .agg #[.int .i64 u, .int .i64 v]] W fun e w' => e = .returned (.int .i64 c) ∧ Below W.heap.size W w'
def Ok1 (f : FuncId) (x y : Int) (b : Bool) : Prop := ∀ W, Calls Try.prog f #[.agg #[.int .i64 x, .int .i64 y]] W fun e w' => e = .returned (.bool b) ∧ Below W.heap.size W w'
theorem sgn_neg (a b : Int) : sgn b a = -(sgn a b) := by
  unfold sgn
  split <;> split <;> first | rfl | omega | (split <;> first | rfl | omega)
theorem sgn_lt0 (a b : Int) : (sgn a b < 0 ↔ a < b) ∧ (sgn a b = 0 ↔ a = b) := by
  unfold sgn
  split
  · omega
  · split <;> omega

theorem setup (x y u v : Int) (hx : -3000000000 ≤ x ∧ x ≤ 3000000000) (hy : -3000000000 ≤ y ∧ y ≤ 3000000000) (hu : -3000000000 ≤ u ∧ u ≤ 3000000000) (hv : -3000000000 ≤ v ∧ v ≤ 3000000000) :
    ∃ (X Y P Q D E c : Int) (b1 b2 b3 ok : Bool), Op2 41 x y u v X Y b1 ∧ Op2 45 x y u v P Q b2 ∧ Op2 39 x y u v X Y b1 ∧ Op2 44 x y u v P Q b2 ∧ Op2 43 x y u v D E b3 ∧
      Cmp2 x y u v c ∧ Cmp2 u v x y (-c) ∧ (-1 ≤ c ∧ c ≤ 1) ∧ Ok1 51 x y ok ∧ Ok1 52 x y ok ∧
      (b1 = true → Op2 43 X Y u v x y true ∧ Ok1 52 X Y true) ∧ (b2 = true → u ≠ 0 → Op2 47 P Q u v x y true) ∧ (b3 = true → (c < 0 ↔ D < 0) ∧ (c = 0 ↔ D = 0)) := by
  have iv : Ok1 51 x y (vr x y) := fun W => impl_valid x y W (by omega) (by omega) (by omega) (by omega)
  have sv : Ok1 52 x y (vr x y) := fun W => spec_valid x y W (by omega) (by omega) (by omega) (by omega)
  have bx : -9223372036854775808 ≤ x ∧ x ≤ 9223372036854775807 := by omega
  have bY : -9223372036854775808 ≤ y ∧ y ≤ 9223372036854775807 := by omega
  have bu : -9223372036854775808 ≤ u ∧ u ≤ 9223372036854775807 := by omega
  have bv : -9223372036854775808 ≤ v ∧ v ≤ 9223372036854775807 := by omega
  cases h : (vr x y && vr u v) with
  | false =>
    have h2 : (vr u v && vr x y) = false := by rw [Bool.and_comm]; exact h
    exact ⟨0, 0, 0, 0, 0, 0, 0, false, false, false, vr x y, fun W => impl_add_no x y u v W bx bY bu bv h, fun W => impl_mul_no x y u v W bx bY bu bv h, fun W => spec_add_no x y u v W bx bY bu bv h, fun W => spec_mul_no x y u v W bx bY bu bv h, fun W => impl_sub_no x y u v W bx bY bu bv h, fun W => impl_cmp_no x y u v W bx bY bu bv h, fun W => impl_cmp_no u v x y W bu bv bx bY h2, by omega, iv, sv, (fun h => by cases h), (fun h => by cases h), (fun h => by cases h)⟩
  | true =>
    rw [Bool.and_eq_true] at h
    obtain ⟨h1, h2⟩ := h
    obtain ⟨a0, a1, a2, a3, a4⟩ := vr_true h1
    obtain ⟨b0, b1, b2, b3, b4⟩ := vr_true h2
    have hc2 : Cmp2 u v x y (-(sgn (x * v) (u * y))) := fun W => by rw [← sgn_neg]; exact impl_cmp_yes u v x y W h2 h1
    have hdp : 1 ≤ y * v := by have := Int.mul_le_mul a0 b0 (by omega) (by omega); omega
    refine ⟨_, _, _, _, _, _, _, _, _, _, _, fun W => impl_add_yes x y u v W h1 h2, fun W => impl_mul_yes x y u v W h1 h2, fun W => spec_add_yes x y u v W h1 h2, fun W => spec_mul_yes x y u v W h1 h2, fun W => impl_sub_yes x y u v W h1 h2, fun W => impl_cmp_yes x y u v W h1 h2, hc2, ?_, iv, sv, ?_, ?_, ?_⟩
    · unfold sgn; split
      · omega
      · split <;> omega
    · intro hok
      obtain ⟨s1, s2, s3⟩ := sub_back h1 h2 hok
      obtain ⟨_, hv⟩ := nok_parts hok
      rw [hok]
      simp only [if_true]
      refine ⟨fun W => ?_, fun W => svalid_yes _ _ W hv⟩
      have := impl_sub_yes _ _ u v W hv h2
      rw [s1, s2, s3] at this
      exact this
    · intro hok hu0
      obtain ⟨s1, s2, s3⟩ := div_back h1 h2 hu0 hok
      obtain ⟨_, hv⟩ := nok_parts hok
      rw [hok]
      simp only [if_true]
      intro W
      have := impl_div_yes _ _ u v W hv h2
      rw [s1, s2, s3] at this
      exact this
    · intro hok
      obtain ⟨_, hv⟩ := nok_parts hok
      obtain ⟨e0, _⟩ := vr_true hv
      have hs := sign_of (cross (x * v - u * y) (y * v)) hdp e0
      have hg := sgn_lt0 (x * v) (u * y)
      rw [hok]
      simp only [if_true]
      generalize nx (x * v - u * y) (y * v) = D at hs ⊢
      omega
end Go.Proofs.Ythghggnlfnbbgaa.RatArithP
