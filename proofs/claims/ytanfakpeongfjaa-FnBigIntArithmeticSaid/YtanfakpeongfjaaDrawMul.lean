/- The draw of two big integers (spec.DrawMulBigInt). -/
import Derived.Test.YtanfakpeongfjaaDrawBig
namespace Go.Proofs.Ytanfakpeongfjaa.DrawMul
open Go.RowKit
open Go.Proofs.Ytanfakpeongfjaa.Num Go.Proofs.Ytanfakpeongfjaa.Row Go.Proofs.Ytanfakpeongfjaa.Cur Go.Proofs.Ytanfakpeongfjaa.Draw Go.Proofs.Ytanfakpeongfjaa.IntRow Go.Proofs.Ytanfakpeongfjaa.IntLaw Go.Proofs.Ytanfakpeongfjaa.DrawBig
set_option linter.unusedVariables false

/-- Two big integers in rows of the call's own; nothing of what was there is turned. -/
def TwoBigs (w : World) (e : Ending) (w' : World) : Prop :=
  ∃ (xs ys : List Int) (a b : Option Addr) (cap cap' : Nat), e = .returned (.tuple #[.agg #[.slice a xs.length cap], .agg #[.slice b ys.length cap']]) ∧ xs.length ≤ 100 ∧ ys.length ≤ 100 ∧
    Own w' w.heap.size 3 (.slice a xs.length cap) xs ∧ Own w' w.heap.size 3 (.slice b ys.length cap') ys ∧ Below w.heap.size w w'

set_option maxHeartbeats 1000000 in
theorem draw_mul (w : World) (sv : Value) (l : List UInt8) (hl : l.length ≤ 1048576) (hc : Cur.Code w w.heap.size sv l) :
    Calls Try.prog 24 #[sv] w (TwoBigs w) := by
  have HN := hid fun W (h : Cur.Code W W.heap.size sv l) => new_any W sv l hl h
  have KB := hid (((Below.refl w.heap.size w).alloc (Nat.le_refl _) (.cells #[.slice none 0 0] 34)).alloc (by simp) (.cells #[.slice none 0 0] 34))
  have K2 := hid ((one_new w (.slice none 0 0) 34).alloc (.cells #[.slice none 0 0] 34))
  have K3 := hid (one_new (w.alloc (.cells #[.slice none 0 0] 34)) (.slice none 0 0) 34)
  simp only [World.size_alloc] at K3
  have HC := hid ((hc.below KB.out (Nat.le_refl _)).higher (d := ((w.alloc (.cells #[.slice none 0 0] 34)).alloc (.cells #[.slice none 0 0] 34)).heap.size) (by simp; omega))
  clear hc
  go_enter Try.func24, Try.ntmps24
  go_wp2_with fail
  refine (HN.out _ HC.out).mono ?_
  rintro e w1 ⟨c, rfl, hcw, hc1, hb1⟩
  simp only [World.size_alloc] at hcw
  replace K2 := hid (K2.out.below' hb1)
  replace K3 := hid (K3.out.below' hb1)
  have B := hid (KB.out.trans (hb1.mono (by simp; omega)))
  have hs1 := B.out.size
  generalize ((0 : Nat), numH l (min 4000 l.length)) = s0 at hc1
  have HB := hid (draw_big c sv l s0 w1 hc1)
  have hlt1 := hc1.lt
  clear hc1 hb1 KB HC
  go_wp2_with fail
  refine HB.out.mono ?_
  rintro e w2 ⟨xs, a, cap, s1, rfl, hxl, V0, C0, g1⟩
  have hs2 := g1.size
  replace K2 := hid (K2.out.grown g1 (fun e => by have e2 := Option.some.inj e; omega))
  replace K3 := hid (K3.out.grown g1 (fun e => by have e2 := Option.some.inj e; omega))
  replace B := hid (B.out.grown g1 hs1 (fun q hq => by have e2 := Option.some.inj hq; omega))
  have V := hid V0
  have C := hid C0
  have LV := hid V0.lt
  clear V0 C0 g1 HB
  go_wp2
  have O5 := hid (one_new w2 (.slice a xs.length cap) 34)
  replace K2 := hid (K2.out.alloc (.cells #[.slice a xs.length cap] 34))
  replace K3 := hid (K3.out.alloc (.cells #[.slice a xs.length cap] 34))
  replace V := hid (V.out.alloc (.cells #[.slice a xs.length cap] 34))
  replace B := hid (B.out.alloc B.out.size (.cells #[.slice a xs.length cap] 34))
  have C5 := hid ((C.out.below (B := w2.heap.size) ((Below.refl _ _).alloc (Nat.le_refl _) (.cells #[.slice a xs.length cap] 34)) (by omega)).drew)
  have HB := hid (draw_big c sv l s1 _ C5.out)
  have hzz : (w2.alloc (.cells #[.slice a xs.length cap] 34)).heap.size = w2.heap.size + 1 := by simp
  have HZZ := hid hzz
  clear hzz C C5
  go_region_law (first
    | (go_simp; go_at_call 55; go_must (refine HB.out.mono ?_); rintro e w3 ⟨ys, a3, cap3, s3, rfl, hyl, V3, C3, g3⟩; have G3 := hid g3; have HV3 := hid V3; have k2 := hid (K2.out.drew.grown g3 (fun e => by have e2 := Option.some.inj e; omega)); have k3 := hid (K3.out.drew.grown g3 (fun e => by have e2 := Option.some.inj e; omega)); have k5 := hid (O5.out.drew.grown g3 (fun e => by have e2 := Option.some.inj e; omega)); obtain ⟨c2, f2, z2⟩ := k2.out; obtain ⟨c3, f3, z3⟩ := k3.out; obtain ⟨c5, f5, z5⟩ := k5.out; clear V3 C3 g3))
  all_goals
    have hz3 : w2.heap.size + 1 ≤ w3.heap.size := by have h := G3.out.size; have h2 := HZZ.out; exact Nat.le_trans (Nat.le_of_eq h2.symm) h
    have o2 := hid ((k2.out.set (.slice a xs.length cap)).far (p := ⟨w.heap.size + 1, 0, none⟩) (by simp) (.slice a3 ys.length cap3))
    have o3 := hid ((k3.out.far (p := ⟨w.heap.size, 0, none⟩) (by simp) (.slice a xs.length cap)).set (.slice a3 ys.length cap3))
    have hr2 := o2.out.1
    have hr3 := o3.out.1
    have va := hid (own_far (own_far (V.out.drew.grown G3.out (fun q hq e => by have e2 := Option.some.inj e; have h1 := LV.out q hq; omega)) (p := ⟨w.heap.size, 0, none⟩) (by simp only; omega) (.slice a xs.length cap)) (p := ⟨w.heap.size + 1, 0, none⟩) (by simp only; omega) (.slice a3 ys.length cap3))
    have vb := hid (own_far (own_far (HV3.out.mono (show w2.heap.size ≤ _ from by show w2.heap.size ≤ (w2.alloc _).heap.size; simp)) (p := ⟨w.heap.size, 0, none⟩) (by simp only; omega) (.slice a xs.length cap)) (p := ⟨w.heap.size + 1, 0, none⟩) (by simp only; omega) (.slice a3 ys.length cap3))
    have bf := hid (((B.out.drew.grown G3.out B.out.size (fun q hq => by have e2 := Option.some.inj hq; omega)).setCell (p := ⟨w.heap.size, 0, none⟩) (Nat.le_refl _) (.slice a xs.length cap)).setCell (p := ⟨w.heap.size + 1, 0, none⟩) (by simp) (.slice a3 ys.length cap3))
    clear k2 k3 k5 G3 HV3 V B
    go_wp2
    exact bodyPost_ret (v := .tuple #[.agg #[.slice a xs.length cap], .agg #[.slice a3 ys.length cap3]]) (by simp [results, Try.results24, go_sem, hr2, hr3]) rfl ⟨xs, ys, a, a3, cap, cap3, rfl, hxl, hyl, va.out.mono (by omega), vb.out.mono (by omega), bf.out⟩
end Go.Proofs.Ytanfakpeongfjaa.DrawMul
