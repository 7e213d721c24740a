/- The draw of a list of weights (spec.l12Weights, DrawSumRationals): some rationals of the call's own. -/
import Derived.Test.YthghggnlfnbbgabDrawRat
import Derived.Test.YthghggnlfnbbgabRatRow
import Derived.Test.YthghggnlfnbbgabRatLaw
namespace Go.Proofs.Ythghggnlfnbbgab.DrawWts
open Go.RowKit
open Go.Proofs.Ythghggnlfnbbgab.Num Go.Proofs.Ythghggnlfnbbgab.Row Go.Proofs.Ythghggnlfnbbgab.Cur Go.Proofs.Ythghggnlfnbbgab.Draw Go.Proofs.Ythghggnlfnbbgab.Pick Go.Proofs.Ythghggnlfnbbgab.Rat Go.Proofs.Ythghggnlfnbbgab.New Go.Proofs.Ythghggnlfnbbgab.RatLaw Go.Proofs.Ythghggnlfnbbgab.Cells Go.Proofs.Ythghggnlfnbbgab.Rdr Go.Proofs.Ythghggnlfnbbgab.HasL Go.Proofs.Ythghggnlfnbbgab.Rats Go.Proofs.Ythghggnlfnbbgab.RatRow Go.Proofs.Ythghggnlfnbbgab.DrawRat
open Go.Proofs.Ythghggnlfnbbgab.DrawBig (below_pos toss Drew Tossed list_cell grown_fresh grown_far cu_set)
set_option linter.unusedVariables false

/-- Some rationals in a slice of the call's own; the cursor moved. -/
def WtsAt (c : Nat) (sv : Value) (l : List UInt8) (w : World) (e : Ending) (w' : World) : Prop :=
  ∃ (a : Option Addr) (cap : Nat) (xs : List RatD) (s : St), e = .returned (.slice a xs.length cap) ∧ xs.length ≤ 6 ∧ Els 2 rRat w' w.heap.size w'.heap.size a xs ∧ Cu w' c sv l s ∧ w.grownBy w' (some c)
theorem grown_low {w a b : World} {row : Option Nat} (h : w.grownBy a row) (g : Below w.heap.size a b) : w.grownBy b row :=
  ⟨g.os.trans h.os, g.tape.trans h.tape, g.output.trans h.output, Nat.le_trans h.size g.size, fun k hk hne => (g.block k hk).trans (h.block k hk hne)⟩
theorem OwnR.grown {w w' : World} {base c : Nat} {e : TypeId} {v : Value} {xs : List RatD} (h : OwnR w base e v xs) (hg : w.grownBy w' (some c)) (hc : c < base) : OwnR w' base e v xs :=
  World.ownsRow.kept h hg (.inr (fun e => by have := (h.lt c e).1; omega))
def AllB (xs : List RatD) : Prop := ∀ j (hj : j < xs.length), Ib xs[j].1 ∧ Ib xs[j].2
theorem allB_nil : AllB [] := fun j hj => by simp at hj
theorem allB_app {xs : List RatD} {x y : Int} (h : AllB xs) (h1 : Ib x) (h2 : Ib y) : AllB (xs ++ [(x, y)]) := fun j hj => by
  rw [List.length_append, List.length_singleton] at hj
  by_cases e : j < xs.length
  · rw [List.getElem_append_left e]; exact h j e
  · rw [List.getElem_append_right (by omega)]; simp; exact ⟨h1, h2⟩
theorem allB_set {xs : List RatD} {x y : Int} (h : AllB xs) (h1 : Ib x) (h2 : Ib y) : AllB (xs.set 0 (x, y)) := fun j hj => by
  rw [List.length_set] at hj
  rw [List.getElem_set]
  split
  · exact ⟨h1, h2⟩
  · exact h j hj
theorem fr_set {p q : RatD} {ps : List RatD} : ((fr (p :: ps)).set 0 (.int .i64 q.1)).set 1 (.int .i64 q.2) = fr ((p :: ps).set 0 q) := by simp [fr]

set_option maxRecDepth 100000 in
set_option maxHeartbeats 1000000 in
theorem draw_wts (c : Nat) (n : Nat) (sv : Value) (l : List UInt8) (s : St) (w : World) (hn : n ≤ 6) (hc : Cu w c sv l s) :
    Calls Try.prog 64 #[.pointer (some ⟨c, 0, none⟩), .int .i64 n] w (WtsAt c sv l w) := by
  obtain ⟨i0, hi0, hz0, hz1, hz2⟩ := info_parts infoRat
  have hcw := hc.lt
  have C0 := hid (hc.below (B := w.heap.size) ((Below.refl _ _).alloc (Nat.le_refl _) (.cells #[] 25)) hcw)
  have G0 := hid (World.grownBy_alloc w (.cells #[] 25) (some c))
  have O0 := hid (ownR_lit w w.heap.size 25 (Nat.le_refl _))
  clear hc
  go_enter Try.func64, Try.ntmps64
  go_wp2
  go_loopw [5, 6, 7] (fun v _ _ wr => ∃ (a : Option Addr) (cap : Nat) (xs : List RatD) (s : St), v = .slice a xs.length cap ∧ xs.length ≤ n ∧ Hid (AllB xs) ∧ Hid (OwnR wr w.heap.size 25 (.slice a xs.length cap) xs) ∧ Hid (Cu wr c sv l s) ∧ Hid (w.grownBy wr (some c))) (fun v _ _ _ => n - (match v with | .slice _ k _ => k | _ => 0))
  case atStart => exact ⟨_, 0, [], s, rfl, Nat.zero_le _, hid allB_nil, O0, C0, G0⟩
  case round =>
    obtain ⟨a, cap, xs, s1, rfl, hxn, hall, ho, hc, hg⟩ := hrel
    clear C0 G0 O0
    have hsz := hg.out.size
    by_cases hlt : xs.length < n
    · have hlt' : (xs.length : Int) < (n : Int) := by omega
      go_wp2_with fail
      refine (below_pos c 4 sv l s1 _ hc.out (by omega) (by omega)).mono ?_
      rintro e w1 ⟨x1, s2, rfl, hx1, C1, g1⟩
      have G1 := hid (Cur.grown_trans hg.out g1)
      have O1 := hid (OwnR.grown ho.out g1 hcw)
      have C1h := hid C1
      clear hg ho hc C1 g1
      go_wp2_with fail
      refine (pick_list c sv l s2 _ C1h.out 4 [1, 2, 2, 3] 3 rfl (by omega) (by omega) (by omega) (by decide) _ (by rfl)).mono ?_
      rintro e w2 ⟨x2, s3, rfl, hx2, C2, g2⟩
      have hcw1 := C1h.out.lt
      have G2 := hid (Cur.grown_trans (Cur.grown_trans G1.out (World.grownBy_alloc w1 (.cells #[.int .i64 1, .int .i64 2, .int .i64 2, .int .i64 3] 3) (some c))) g2)
      have O2 := hid (OwnR.grown (OwnR.below' O1.out ((Below.refl _ _).alloc (Nat.le_refl _) (.cells #[.int .i64 1, .int .i64 2, .int .i64 2, .int .i64 3] 3))) g2 hcw)
      have C2h := hid C2
      clear G1 O1 C1h C2 g2
      have N := hid fun W => spec_new (x1 : Int) x2 W (by omega) (by omega) (by omega) (by omega)
      have hbd := rx_bd (x1 : Int) x2
      simp only [ratEnd_is] at N
      generalize rx (nok (x1 : Int) x2) (nx (x1 : Int) x2) = X at N hbd
      generalize rx (nok (x1 : Int) x2) (ny (x1 : Int) x2) = Y at N hbd
      generalize nok (x1 : Int) x2 = ok at N
      go_wp2_with fail
      refine (N.out _).mono ?_
      rintro e w3 ⟨rfl, hb⟩
      have G3 := hid (grown_bel G2.out hb)
      have O3 := hid (OwnR.below' O2.out hb)
      have C3 := hid (cu_below C2h.out hb)
      clear hb N G2 O2 C2h
      have hsz3 := G3.out.size
      have hcw3 := C3.out.lt
      have KN := hid (hasl_new w3 [.int .i64 X, .int .i64 Y] 25)
      have G4 := hid (Cur.grown_trans G3.out (World.grownBy_alloc w3 (.cells #[.int .i64 X, .int .i64 Y] 25) (some c)))
      have O4 := hid (OwnR.below' O3.out ((Below.refl _ _).alloc (Nat.le_refl _) (.cells #[.int .i64 X, .int .i64 Y] 25)))
      have C4 := hid (cu_below C3.out ((Below.refl _ _).alloc (Nat.le_refl _) (.cells #[.int .i64 X, .int .i64 Y] 25)))
      have hsz4 : w.heap.size ≤ (w3.alloc (.cells #[.int .i64 X, .int .i64 Y] 25)).heap.size := by simp; omega
      have HA := hid (allB_app (x := X) (y := Y) hall.out ⟨by omega, by omega⟩ ⟨by omega, by omega⟩)
      obtain ⟨n0, n1, n2, n3, n4⟩ := KN.out.two
      clear G3 O3 C3 hall
      go_wp2_with (at_builtin; refine append_rat rfl _ _ 28 rfl w.heap.size 25 i0 Try.underlying28 hi0 hz0 hz1 hz2 (w3.alloc (.cells #[.int .i64 X, .int .i64 Y] 25)) _ xs (X, Y) O4.out (by rfl) hsz4 (by simp only [World.size_alloc]; rfl) (by omega) ?_)
      intro v1 w5 hown1 hbel1 hsz5
      obtain ⟨a5, cap5, hv5, _⟩ := hown1.els HA.out
      have hl5 : (xs ++ [(X, Y)]).length = xs.length + 1 := by simp
      rw [hl5] at hv5
      subst hv5
      have HO := hid hown1
      have HG := hid (grown_low G4.out hbel1)
      have HC := hid (C4.out.below hbel1 hcw)
      have HL := hid hl5
      clear hown1 hbel1 G4 O4 C4 n0 n1 n2 n3 n4 KN hl5
      go_wp2
      go_roundw
      case rel => exact ⟨a5, cap5, xs ++ [(X, Y)], s3, by rw [HL.out], by rw [HL.out]; omega, HA, by rw [HL.out]; exact HO, HC, HG⟩
      case measure => simp; omega
    · have hlt' : ¬ (xs.length : Int) < (n : Int) := by omega
      cases xs with
      | nil =>
        have hlz : ¬ (0 : Int) < ((([] : List RatD).length : Nat) : Int) := by simp
        obtain ⟨a', cap', hv, hel⟩ := ho.out.els hall.out
        simp only [Value.slice.injEq] at hv
        obtain ⟨rfl, _, rfl⟩ := hv
        have HE := hid (hel.up good_rat (Nat.le_refl _) (Nat.le_refl _))
        clear hel ho
        go_wp2
        go_ret
        exact ⟨a, cap, [], s1, rfl, by simp, HE.out, hc.out, hg.out⟩
      | cons p ps =>
        have hlz : (0 : Int) < (((p :: ps).length : Nat) : Int) := by rw [List.length_cons]; omega
        obtain ⟨m, hm⟩ : ∃ m, (p :: ps).length = m := ⟨_, rfl⟩
        have hm0 : 0 < m := by rw [← hm]; simp
        rw [hm] at hlz hlt' hxn hlt
        have HM := hid hm
        rw [hm]
        clear hm
        go_wp2_with fail
        refine (toss c 12 sv l s1 _ hc.out (by omega)).mono ?_
        rintro e w1 ⟨b, s2, rfl, C1, g1⟩
        have G1 := hid (Cur.grown_trans hg.out g1)
        have O1 := hid (OwnR.grown ho.out g1 hcw)
        have C1h := hid C1
        clear hg ho hc C1 g1
        cases b with
        | false =>
          obtain ⟨a', cap', hv, hel⟩ := O1.out.els hall.out
          simp only [Value.slice.injEq] at hv
          obtain ⟨rfl, _, rfl⟩ := hv
          have HE := hid hel
          clear hel
          go_wp2
          go_ret
          exact ⟨a, cap, p :: ps, s2, by rw [HM.out]; rfl, by rw [HM.out]; omega, HE.out, C1h.out, G1.out⟩
        | true =>
          go_wp2_with fail
          refine (draw_any c sv l s2 _ C1h.out).mono ?_
          rintro e w2 ⟨x, y, s3, rfl, hx, hy, C2, g2⟩
          have G2 := hid (Cur.grown_trans G1.out g2)
          have O2 := OwnR.grown O1.out g2 hcw
          have C2h := hid C2
          clear G1 O1 C1h C2 g2
          have hO2 := O2
          obtain ⟨hol, hor⟩ := hO2
          rcases hor with ⟨_, h0⟩ | ⟨g, cap2, cur, hv, hgb, _⟩
          · simp at h0
          · simp only [Value.slice.injEq, true_and] at hv
            obtain ⟨rfl, rfl⟩ := hv
            have hO : w2.ownsRow w.heap.size 25 2 (.slice (some ⟨g, 0, none⟩) (p :: ps).length cap) (p :: ps).length (fr (p :: ps)) := O2
            have e0 : w2.cell? ⟨g, 0, none⟩ = some (.int .i64 p.1) := by rw [World.ownsRow.cellAt hO 0 (by rw [List.length_cons]; omega)]; rfl
            have e1 : w2.cell? ⟨g, 1, none⟩ = some (.int .i64 p.2) := by rw [World.ownsRow.cellAt hO 1 (by rw [List.length_cons]; omega)]; rfl
            have f0 := World.ownsRow.frozenAt hO 0
            have f1 := World.ownsRow.frozenAt hO 1
            have O3 := (World.ownsRow.stored hO 0 (.int .i64 x)).1
            have O4 := (World.ownsRow.stored O3 1 (.int .i64 y)).1
            rw [fr_set (q := (x, y))] at O4
            have hsl : ((p :: ps).set 0 (x, y)).length = (p :: ps).length := by simp
            rw [← hsl] at O4
            have HA := hid (allB_set (x := x) (y := y) hall.out ⟨by omega, by omega⟩ ⟨by omega, by omega⟩)
            obtain ⟨a', cap', hv, hel⟩ := OwnR.els (show OwnR _ w.heap.size 25 (.slice (some ⟨g, 0, none⟩) ((p :: ps).set 0 (x, y)).length cap) ((p :: ps).set 0 (x, y)) from O4) HA.out
            simp only [Value.slice.injEq] at hv
            obtain ⟨rfl, _, rfl⟩ := hv
            have HE := hid hel
            have HC := hid (cu_set (i := 1) (cu_set (i := 0) C2h.out (show c < g by omega) (.int .i64 x)) (show c < g by omega) (.int .i64 y))
            have HG := hid (grown_far (b := g) (i := 1) (grown_far (b := g) (i := 0) G2.out hgb (.int .i64 x)) hgb (.int .i64 y))
            have HSL := hid (hsl.trans HM.out)
            clear hel O4 O3 hO O2 hol C2h G2 hsl hall
            go_wp2
            go_ret
            exact ⟨some ⟨g, 0, none⟩, cap, (p :: ps).set 0 (x, y), s3, by rw [HSL.out]; rfl, by rw [HSL.out]; omega, HE.out, HC.out, HG.out⟩

/-- Some rationals in memory of the call's own. -/
def Wts (w : World) (e : Ending) (w' : World) : Prop :=
  ∃ (a : Option Addr) (cap : Nat) (xs : List RatD), e = .returned (.slice a xs.length cap) ∧ xs.length ≤ 6 ∧ Els 2 rRat w' 0 w'.heap.size a xs ∧ Below w.heap.size w w'
theorem draw_sum (w : World) (sv : Value) (l : List UInt8) (hl : l.length ≤ 1048576) (hc : Cur.Code w w.heap.size sv l) :
    Calls Try.prog 42 #[sv] w (Wts w) := by
  have HN := hid (new_any w sv l hl hc)
  clear hc
  go_enter Try.func42, Try.ntmps42
  go_wp2_with fail
  refine HN.out.mono ?_
  rintro e w1 ⟨c, rfl, hcw, hc1, hb1⟩
  have HB := hid hb1
  have hsz := hb1.size
  generalize ((0 : Nat), numH l (min 4000 l.length)) = s0 at hc1
  have HC := hid hc1
  clear hb1 hc1
  go_wp2_with fail
  refine (below_pos c 5 sv l s0 _ HC.out (by omega) (by omega)).mono ?_
  rintro e w2 ⟨n, s1, rfl, hn, C1, g1⟩
  have HB2 := hid (HB.out.trans (grown_below g1 hsz hcw))
  have C1h := hid C1
  have hsz2 := HB2.out.size
  clear C1 g1 HC HB
  go_wp2_with fail
  refine (draw_wts c n sv l s1 _ (by omega) C1h.out).mono ?_
  rintro e w3 ⟨a, cap, xs, s2, rfl, hx, hel, _, g2⟩
  have HB3 := hid (HB2.out.trans (grown_below g2 hsz2 hcw))
  have HE := hid (hel.up good_rat (Nat.zero_le _) (Nat.le_refl _))
  clear hel g2 HB2
  go_wp2
  go_ret
  exact ⟨a, cap, xs, rfl, hx, HE.out, HB3.out⟩
theorem draw_scale (w : World) (sv : Value) (l : List UInt8) (hl : l.length ≤ 1048576) (hc : Cur.Code w w.heap.size sv l) :
    Calls Try.prog 18 #[sv] w (Wts w) := by
  have HN := hid (draw_sum w sv l hl hc)
  clear hc
  go_enter Try.func18, Try.ntmps18
  go_wp2_with fail
  refine HN.out.mono ?_
  rintro e w1 ⟨a, cap, xs, rfl, h1, h2, h3⟩
  go_wp2
  go_ret
  exact ⟨a, cap, xs, rfl, h1, h2, h3⟩
end Go.Proofs.Ythghggnlfnbbgab.DrawWts
