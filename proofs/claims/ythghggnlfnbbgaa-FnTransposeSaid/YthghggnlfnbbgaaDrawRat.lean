/- The draws of rationals (spec.l2Rat, l2Any, l2Two): some structs of two ints. -/
import Derived.Test.YthghggnlfnbbgaaDrawBig
import Derived.Test.YthghggnlfnbbgaaRatLaw
import Derived.Test.YthghggnlfnbbgaaCells
namespace Go.Proofs.Ythghggnlfnbbgaa.DrawRat
open Go.RowKit
open Go.Proofs.Ythghggnlfnbbgaa.Num Go.Proofs.Ythghggnlfnbbgaa.Row Go.Proofs.Ythghggnlfnbbgaa.Cur Go.Proofs.Ythghggnlfnbbgaa.Draw Go.Proofs.Ythghggnlfnbbgaa.Pick Go.Proofs.Ythghggnlfnbbgaa.Rat Go.Proofs.Ythghggnlfnbbgaa.New Go.Proofs.Ythghggnlfnbbgaa.RatLaw Go.Proofs.Ythghggnlfnbbgaa.Cells
open Go.Proofs.Ythghggnlfnbbgaa.DrawBig (below_pos toss Drew Tossed list_cell grown_fresh grown_far cu_set)
set_option linter.unusedVariables false

/-- Some struct of two ints not above m; the cursor moved; nothing else of what was there is turned. -/
def RatAt (m : Int) (c : Nat) (sv : Value) (l : List UInt8) (w : World) (e : Ending) (w' : World) : Prop :=
  ∃ (x y : Int) (s : St), e = .returned (.agg #[.int .i64 x, .int .i64 y]) ∧ (-m ≤ x ∧ x ≤ m) ∧ (-m ≤ y ∧ y ≤ m) ∧ Cu w' c sv l s ∧ w.grownBy w' (some c)

theorem rx_bd (n d : Int) : (-1000000000 ≤ rx (nok n d) (nx n d) ∧ rx (nok n d) (nx n d) ≤ 1000000000) ∧ (-1000000000 ≤ rx (nok n d) (ny n d) ∧ rx (nok n d) (ny n d) ≤ 1000000000) := by
  cases h : nok n d with
  | false => simp [rx]
  | true =>
    unfold nok at h
    rw [Bool.and_eq_true] at h
    obtain ⟨a, b, c, e, _⟩ := vr_true h.2
    simp only [rx, if_true]
    omega
theorem has2_grown {w w' : World} {b : Nat} {x y : Value} {row : Option Nat} (h : Has2 w b x y) (hg : w.grownBy w' row) (hne : row ≠ some b) : Has2 w' b x y := by
  have hb := hg.block b h.2.2.1 (fun e => hne e.symm)
  exact ⟨(World.cell?_of_block (w := w) (a := ⟨b, 0, none⟩) hb).trans h.1, (World.cell?_of_block (w := w) (a := ⟨b, 1, none⟩) hb).trans h.2.1, Nat.lt_of_lt_of_le h.2.2.1 hg.size, (World.frozen?_of_block (w := w) (a := ⟨b, 0, none⟩) hb).trans h.2.2.2.1, (World.frozen?_of_block (w := w) (a := ⟨b, 1, none⟩) hb).trans h.2.2.2.2⟩
theorem has2_far {w : World} {b g i : Nat} {x y : Value} (h : Has2 w b x y) (hne : b ≠ g) (u : Value) : Has2 (w.setCell ⟨g, i, none⟩ u) b x y :=
  has2_grown h (grown_set w g i u) (fun e => hne (Option.some.inj e).symm)
theorem has2_put1 {w : World} {b : Nat} {x y u : Value} (h : Has2 w b x y) : Has2 (w.setCell ⟨b, 1, none⟩ u) b x u := by
  obtain ⟨h0, h1, h2, h3, h4⟩ := h
  exact ⟨by rw [World.cell?_setCell_other _ _ _ _ (by simp)]; exact h0, World.cell?_setCell_same _ _ _ h1, by simpa using h2, by rw [World.frozen?_setCell]; exact h3, by rw [World.frozen?_setCell]; exact h4⟩
theorem has2_put0 {w : World} {b : Nat} {x y u : Value} (h : Has2 w b x y) : Has2 (w.setCell ⟨b, 0, none⟩ u) b u y := by
  obtain ⟨h0, h1, h2, h3, h4⟩ := h
  exact ⟨World.cell?_setCell_same _ _ _ h0, by rw [World.cell?_setCell_other _ _ _ _ (by simp)]; exact h1, by simpa using h2, by rw [World.frozen?_setCell]; exact h3, by rw [World.frozen?_setCell]; exact h4⟩
theorem pick_bd (l : List UInt8) (zs : List Int) (s : St) (m : Int) (h0 : 0 ≤ m) (h : ∀ z ∈ zs, -m ≤ z ∧ z ≤ m) : -m ≤ (pickF l zs s).1 ∧ (pickF l zs s).1 ≤ m := by
  unfold pickF
  show -m ≤ zs.getD _ 0 ∧ zs.getD _ 0 ≤ m
  generalize (belowF l (zs.length : Nat) s).1.toNat = k
  rw [List.getD_eq_getElem?_getD]
  cases hk : zs[k]? with
  | none => exact ⟨by show -m ≤ 0; omega, h0⟩
  | some z => exact h z (List.mem_of_getElem? hk)
/-- A draw out of a list that the call has just laid. -/
def Picked (m : Int) (c : Nat) (sv : Value) (l : List UInt8) (w : World) (e : Ending) (w' : World) : Prop :=
  ∃ (x : Int) (s : St), e = .returned (.int .i64 x) ∧ (-m ≤ x ∧ x ≤ m) ∧ Cu w' c sv l s ∧ w.grownBy w' (some c)
theorem pick_list (c : Nat) (sv : Value) (l : List UInt8) (s : St) (w : World) (hc : Cu w c sv l s) (n : Nat) (zs : List Int) (m : Int) (hn : zs.length = n) (h1 : 1 ≤ n) (h2 : n ≤ 1000) (h0 : 0 ≤ m) (hm : ∀ z ∈ zs, -m ≤ z ∧ z ≤ m) (cs : Array Value) (hcs : cs = (zs.map (Value.int .i64)).toArray) :
    Calls Try.prog 83 #[.pointer (some ⟨c, 0, none⟩), .slice (some ⟨w.heap.size, 0, none⟩) n n] (w.alloc (.cells cs 3)) (Picked m c sv l (w.alloc (.cells cs 3))) := by
  subst hn hcs
  have hlt : c < w.heap.size := hc.lt
  refine (pick_any c sv l s _ (hc.below (B := w.heap.size) ((Below.refl _ _).alloc (Nat.le_refl _) _) hlt) w.heap.size zs.length zs h1 h2 (by omega) ?_).mono ?_
  · intro j hj
    refine (World.cell?_alloc_at _ _ _ _ rfl).trans ?_
    exact list_cell zs j hj
  · rintro e w' ⟨he, h1, h2⟩
    exact ⟨_, _, he, pick_bd l zs s m h0 hm, h1, h2⟩
theorem cu_below {w w' : World} {c : Nat} {sv : Value} {l : List UInt8} {s : St} (hc : Cu w c sv l s) (hb : Below w.heap.size w w') : Cu w' c sv l s := hc.below hb hc.lt
theorem grown_bel {w a b : World} {row : Option Nat} (h : w.grownBy a row) (g : Below a.heap.size a b) : w.grownBy b row :=
  ⟨g.os.trans h.os, g.tape.trans h.tape, g.output.trans h.output, Nat.le_trans h.size g.size, fun k hk hne => (g.block k (Nat.lt_of_lt_of_le hk h.size)).trans (h.block k hk hne)⟩

set_option maxHeartbeats 1000000 in
theorem draw_rat (c : Nat) (sv : Value) (l : List UInt8) (s : St) (w : World) (hc : Cu w c sv l s) :
    Calls Try.prog 84 #[.pointer (some ⟨c, 0, none⟩)] w (RatAt 1000000000 c sv l w) := by
  have hcw := hc.lt
  have K := hid (has2_new w (.int .i64 0) (.int .i64 0) 25)
  have C := hid (hc.below (B := w.heap.size) ((Below.refl _ _).alloc (Nat.le_refl _) (.cells #[.int .i64 0, .int .i64 0] 25)) hcw)
  have G := hid (World.grownBy_alloc w (.cells #[.int .i64 0, .int .i64 0] 25) (some c))
  clear hc
  go_enter Try.func84, Try.ntmps84
  go_wp2_with fail
  refine (below_pos c 41 sv l s _ C.out (by omega) (by omega)).mono ?_
  rintro e w1 ⟨x1, s1, rfl, hx1, C1, g1⟩
  replace K := hid (has2_grown K.out g1 (fun e => by have e2 := Option.some.inj e; omega))
  replace G := hid (Cur.grown_trans G.out g1)
  replace C := hid C1
  clear C1 g1
  go_wp2_with fail
  refine (below_pos c 12 sv l s1 _ C.out (by omega) (by omega)).mono ?_
  rintro e w2 ⟨x2, s2, rfl, hx2, C1, g1⟩
  replace K := hid (has2_grown K.out g1 (fun e => by have e2 := Option.some.inj e; omega))
  replace G := hid (Cur.grown_trans G.out g1)
  replace C := hid C1
  clear C1 g1
  have N := hid fun W => spec_new ((x1 : Int) - 20) (1 + (x2 : Int)) W (by omega) (by omega) (by omega) (by omega)
  have hbd := rx_bd ((x1 : Int) - 20) (1 + (x2 : Int))
  simp only [ratEnd_is] at N
  generalize rx (nok ((x1 : Int) - 20) (1 + (x2 : Int))) (nx ((x1 : Int) - 20) (1 + (x2 : Int))) = X at N hbd
  generalize rx (nok ((x1 : Int) - 20) (1 + (x2 : Int))) (ny ((x1 : Int) - 20) (1 + (x2 : Int))) = Y at N hbd
  generalize nok ((x1 : Int) - 20) (1 + (x2 : Int)) = ok at N
  go_wp2_with fail
  refine (N.out _).mono ?_
  rintro e w3 ⟨rfl, hb⟩
  replace K := hid (K.out.below hb)
  replace G := hid (grown_bel G.out hb)
  replace C := hid (cu_below C.out hb)
  clear hb N
  have hcw3 := C.out.lt
  have hz3 := K.out.2.2.1
  have O := hid (has2_new w3 (.int .i64 X) (.int .i64 Y) 25)
  replace K := hid (K.out.alloc (.cells #[.int .i64 X, .int .i64 Y] 25))
  replace G := hid (Cur.grown_trans G.out (World.grownBy_alloc w3 (.cells #[.int .i64 X, .int .i64 Y] 25) (some c)))
  replace C := hid (C.out.below (B := w3.heap.size) ((Below.refl _ _).alloc (Nat.le_refl _) (.cells #[.int .i64 X, .int .i64 Y] 25)) hcw3)
  go_wp2_with fail
  refine (toss c 12 sv l s2 _ C.out (by omega)).mono ?_
  rintro e w4 ⟨b, s4, rfl, C1, g1⟩
  replace K := hid (has2_grown K.out g1 (fun e => by have e2 := Option.some.inj e; omega))
  replace O := hid (has2_grown O.out g1 (fun e => by have e2 := Option.some.inj e; omega))
  replace G := hid (Cur.grown_trans G.out g1)
  replace C := hid C1
  clear C1 g1
  cases b with
  | false =>
    have hr := hid (K.out.set (u := .int .i64 X) (v := .int .i64 Y))
    have hC2 := hid (cu_set (i := 1) (cu_set (i := 0) C.out hcw (.int .i64 X)) hcw (.int .i64 Y))
    have hG2 := hid (grown_far (b := w.heap.size) (i := 1) (grown_far (b := w.heap.size) (i := 0) G.out (Nat.le_refl _) (.int .i64 X)) (Nat.le_refl _) (.int .i64 Y))
    obtain ⟨o0, o1, oz, of0, of1⟩ := O.out
    obtain ⟨k0, k1, kz, kf0, kf1⟩ := K.out
    obtain ⟨r0, r1⟩ := hr.out
    go_wp2
    exact bodyPost_ret (v := .agg #[.int .i64 X, .int .i64 Y]) (by simp [results, Try.results84, go_sem, r0, r1]) rfl ⟨X, Y, s4, rfl, hbd.1, hbd.2, hC2.out, hG2.out⟩
  | true =>
    go_wp2_with fail
    refine (pick_list c sv l s4 w4 C.out 4 [1000000000, -1000000000, 999999937, 1] 1000000000 rfl (by omega) (by omega) (by omega) (by decide) _ rfl).mono ?_
    rintro e w5 ⟨z1, s5, rfl, hz1b, C1, g1⟩
    have g2 := Cur.grown_trans (World.grownBy_alloc w4 (.cells #[.int .i64 1000000000, .int .i64 (-1000000000), .int .i64 999999937, .int .i64 1] 3) (some c)) g1
    replace K := hid (has2_grown K.out g2 (fun e => by have e2 := Option.some.inj e; omega))
    replace O := hid (has2_grown O.out g2 (fun e => by have e2 := Option.some.inj e; omega))
    replace G := hid (Cur.grown_trans G.out g2)
    replace C := hid C1
    clear C1 g1 g2
    go_wp2_with fail
    refine (pick_list c sv l s5 w5 C.out 3 [1, 1000000000, 999999893] 1000000000 rfl (by omega) (by omega) (by omega) (by decide) _ rfl).mono ?_
    rintro e w6 ⟨z2, s6, rfl, hz2b, C1, g1⟩
    have g2 := Cur.grown_trans (World.grownBy_alloc w5 (.cells #[.int .i64 1, .int .i64 1000000000, .int .i64 999999893] 3) (some c)) g1
    replace K := hid (has2_grown K.out g2 (fun e => by have e2 := Option.some.inj e; omega))
    replace O := hid (has2_grown O.out g2 (fun e => by have e2 := Option.some.inj e; omega))
    replace G := hid (Cur.grown_trans G.out g2)
    replace C := hid C1
    clear C1 g1 g2
    have N := hid fun W => spec_new z1 z2 W (by omega) (by omega) (by omega) (by omega)
    have hbd2 := rx_bd z1 z2
    simp only [ratEnd_is] at N
    generalize rx (nok z1 z2) (nx z1 z2) = X2 at N hbd2
    generalize rx (nok z1 z2) (ny z1 z2) = Y2 at N hbd2
    generalize nok z1 z2 = ok2 at N
    go_wp2_with fail
    refine (N.out _).mono ?_
    rintro e w7 ⟨rfl, hb⟩
    replace K := hid (K.out.below hb)
    replace O := hid (O.out.below hb)
    replace G := hid (grown_bel G.out hb)
    replace C := hid (cu_below C.out hb)
    clear hb N
    have O2 := hid (has2_put1 (u := .int .i64 Y2) (has2_put0 (u := .int .i64 X2) O.out))
    have K2 := hid (has2_far (i := 1) (has2_far (i := 0) K.out (show w.heap.size ≠ w3.heap.size by omega) (.int .i64 X2)) (show w.heap.size ≠ w3.heap.size by omega) (.int .i64 Y2))
    have hr := hid (K2.out.set (u := .int .i64 X2) (v := .int .i64 Y2))
    have hC2 := hid (cu_set (i := 1) (cu_set (i := 0) (cu_set (i := 1) (cu_set (i := 0) C.out hcw3 (.int .i64 X2)) hcw3 (.int .i64 Y2)) hcw (.int .i64 X2)) hcw (.int .i64 Y2))
    have hG2 := hid (grown_far (b := w.heap.size) (i := 1) (grown_far (b := w.heap.size) (i := 0) (grown_far (b := w3.heap.size) (i := 1) (grown_far (b := w3.heap.size) (i := 0) G.out (by omega) (.int .i64 X2)) (by omega) (.int .i64 Y2)) (Nat.le_refl _) (.int .i64 X2)) (Nat.le_refl _) (.int .i64 Y2))
    obtain ⟨o0, o1, oz, of0, of1⟩ := O.out
    obtain ⟨p0, p1, pz, pf0, pf1⟩ := O2.out
    obtain ⟨k0, k1, kz, kf0, kf1⟩ := K2.out
    obtain ⟨r0, r1⟩ := hr.out
    go_wp2
    exact bodyPost_ret (v := .agg #[.int .i64 X2, .int .i64 Y2]) (by simp [results, Try.results84, go_sem, r0, r1]) rfl ⟨X2, Y2, s6, rfl, hbd2.1, hbd2.2, hC2.out, hG2.out⟩

set_option maxHeartbeats 1000000 in
theorem draw_any (c : Nat) (sv : Value) (l : List UInt8) (s : St) (w : World) (hc : Cu w c sv l s) :
    Calls Try.prog 78 #[.pointer (some ⟨c, 0, none⟩)] w (RatAt 3000000000 c sv l w) := by
  have hcw := hc.lt
  have K := hid (has2_new w (.int .i64 0) (.int .i64 0) 25)
  have C := hid (hc.below (B := w.heap.size) ((Below.refl _ _).alloc (Nat.le_refl _) (.cells #[.int .i64 0, .int .i64 0] 25)) hcw)
  have G := hid (World.grownBy_alloc w (.cells #[.int .i64 0, .int .i64 0] 25) (some c))
  clear hc
  go_enter Try.func78, Try.ntmps78
  go_wp2_with fail
  refine (draw_rat c sv l s _ C.out).mono ?_
  rintro e w3 ⟨X, Y, s1, rfl, hX, hY, C1, g1⟩
  replace K := hid (has2_grown K.out g1 (fun e => by have e2 := Option.some.inj e; omega))
  replace G := hid (Cur.grown_trans G.out g1)
  replace C := hid C1
  clear C1 g1
  have hcw3 := C.out.lt
  have hz3 := K.out.2.2.1
  obtain ⟨hX0, hX1⟩ := hX
  obtain ⟨hY0, hY1⟩ := hY
  have O := hid (has2_new w3 (.int .i64 X) (.int .i64 Y) 25)
  replace K := hid (K.out.alloc (.cells #[.int .i64 X, .int .i64 Y] 25))
  replace G := hid (Cur.grown_trans G.out (World.grownBy_alloc w3 (.cells #[.int .i64 X, .int .i64 Y] 25) (some c)))
  replace C := hid (C.out.below (B := w3.heap.size) ((Below.refl _ _).alloc (Nat.le_refl _) (.cells #[.int .i64 X, .int .i64 Y] 25)) hcw3)
  go_wp2_with fail
  refine (below_pos c 14 sv l s1 _ C.out (by omega) (by omega)).mono ?_
  rintro e w4 ⟨t, s4, rfl, ht, C1, g1⟩
  replace K := hid (has2_grown K.out g1 (fun e => by have e2 := Option.some.inj e; omega))
  replace O := hid (has2_grown O.out g1 (fun e => by have e2 := Option.some.inj e; omega))
  replace G := hid (Cur.grown_trans G.out g1)
  replace C := hid C1
  clear C1 g1
  by_cases h0 : t = 0
  · subst h0
    go_wp2_with fail
    refine (pick_list c sv l s4 w4 C.out 3 [0, -1, 1000000001] 3000000000 rfl (by omega) (by omega) (by omega) (by decide) _ rfl).mono ?_
    rintro e w5 ⟨z, s5, rfl, ⟨hz0, hz1⟩, C1, g1⟩
    have g2 := Cur.grown_trans (World.grownBy_alloc w4 (.cells #[.int .i64 0, .int .i64 (-1), .int .i64 1000000001] 3) (some c)) g1
    replace K := hid (has2_grown K.out g2 (fun e => by have e2 := Option.some.inj e; omega))
    replace O := hid (has2_grown O.out g2 (fun e => by have e2 := Option.some.inj e; omega))
    replace G := hid (Cur.grown_trans G.out g2)
    replace C := hid C1
    clear C1 g1 g2
    have O2 := hid (has2_put1 (u := .int .i64 z) O.out)
    have K2 := hid (has2_far (i := 1) K.out (show w.heap.size ≠ w3.heap.size by omega) (.int .i64 z))
    have hr := hid (K2.out.set (u := .int .i64 X) (v := .int .i64 z))
    have hC2 := hid (cu_set (i := 1) (cu_set (i := 0) (cu_set (i := 1) C.out hcw3 (.int .i64 z)) hcw (.int .i64 X)) hcw (.int .i64 z))
    have hG2 := hid (grown_far (b := w.heap.size) (i := 1) (grown_far (b := w.heap.size) (i := 0) (grown_far (b := w3.heap.size) (i := 1) G.out (by omega) (.int .i64 z)) (Nat.le_refl _) (.int .i64 X)) (Nat.le_refl _) (.int .i64 z))
    obtain ⟨o0, o1, oz, of0, of1⟩ := O.out
    obtain ⟨p0, p1, pz, pf0, pf1⟩ := O2.out
    obtain ⟨k0, k1, kz, kf0, kf1⟩ := K2.out
    obtain ⟨r0, r1⟩ := hr.out
    go_wp2
    exact bodyPost_ret (v := .agg #[.int .i64 X, .int .i64 z]) (by simp [results, Try.results78, go_sem, r0, r1]) rfl ⟨X, z, s5, rfl, ⟨by omega, by omega⟩, ⟨by omega, by omega⟩, hC2.out, hG2.out⟩
  · by_cases h1 : t = 1
    · subst h1
      have OO := O
      obtain ⟨o0, o1, oz, of0, of1⟩ := O.out
      go_wp2_with fail
      refine (pick_list c sv l s4 w4 C.out 3 [1000000001, -1000000001, 2 * Y] 3000000000 rfl (by omega) (by omega) (by omega) (by
        intro q hq
        simp only [List.mem_cons, List.not_mem_nil, or_false] at hq
        rcases hq with rfl | rfl | rfl <;> omega) _ rfl).mono ?_
      rintro e w5 ⟨z, s5, rfl, ⟨hz0, hz1⟩, C1, g1⟩
      have g2 := Cur.grown_trans (World.grownBy_alloc w4 (.cells #[.int .i64 1000000001, .int .i64 (-1000000001), .int .i64 (2 * Y)] 3) (some c)) g1
      replace K := hid (has2_grown K.out g2 (fun e => by have e2 := Option.some.inj e; omega))
      replace O := hid (has2_grown OO.out g2 (fun e => by have e2 := Option.some.inj e; omega))
      replace G := hid (Cur.grown_trans G.out g2)
      replace C := hid C1
      clear C1 g1 g2 o0 o1 oz of0 of1 OO
      have O2 := hid (has2_put0 (u := .int .i64 z) O.out)
      have K2 := hid (has2_far (i := 0) K.out (show w.heap.size ≠ w3.heap.size by omega) (.int .i64 z))
      have hr := hid (K2.out.set (u := .int .i64 z) (v := .int .i64 Y))
      have hC2 := hid (cu_set (i := 1) (cu_set (i := 0) (cu_set (i := 0) C.out hcw3 (.int .i64 z)) hcw (.int .i64 z)) hcw (.int .i64 Y))
      have hG2 := hid (grown_far (b := w.heap.size) (i := 1) (grown_far (b := w.heap.size) (i := 0) (grown_far (b := w3.heap.size) (i := 0) G.out (by omega) (.int .i64 z)) (Nat.le_refl _) (.int .i64 z)) (Nat.le_refl _) (.int .i64 Y))
      obtain ⟨o0, o1, oz, of0, of1⟩ := O.out
      obtain ⟨p0, p1, pz, pf0, pf1⟩ := O2.out
      obtain ⟨k0, k1, kz, kf0, kf1⟩ := K2.out
      obtain ⟨r0, r1⟩ := hr.out
      go_wp2
      exact bodyPost_ret (v := .agg #[.int .i64 z, .int .i64 Y]) (by simp [results, Try.results78, go_sem, r0, r1]) rfl ⟨z, Y, s5, rfl, ⟨by omega, by omega⟩, ⟨by omega, by omega⟩, hC2.out, hG2.out⟩
    · have t0 : ((t : Int) == 0) = false := by rw [beq_eq_false_iff_ne]; omega
      have t1 : ((t : Int) == 1) = false := by rw [beq_eq_false_iff_ne]; omega
      have hr := hid (K.out.set (u := .int .i64 X) (v := .int .i64 Y))
      have hC2 := hid (cu_set (i := 1) (cu_set (i := 0) C.out hcw (.int .i64 X)) hcw (.int .i64 Y))
      have hG2 := hid (grown_far (b := w.heap.size) (i := 1) (grown_far (b := w.heap.size) (i := 0) G.out (Nat.le_refl _) (.int .i64 X)) (Nat.le_refl _) (.int .i64 Y))
      obtain ⟨o0, o1, oz, of0, of1⟩ := O.out
      obtain ⟨k0, k1, kz, kf0, kf1⟩ := K.out
      obtain ⟨r0, r1⟩ := hr.out
      go_wp2
      exact bodyPost_ret (v := .agg #[.int .i64 X, .int .i64 Y]) (by simp [results, Try.results78, go_sem, r0, r1]) rfl ⟨X, Y, s4, rfl, ⟨by omega, by omega⟩, ⟨by omega, by omega⟩, hC2.out, hG2.out⟩

/-- Two structs of two ints; nothing of what was there is turned. -/
def TwoRats (w : World) (e : Ending) (w' : World) : Prop :=
  ∃ x y u v : Int, e = .returned (.tuple #[.agg #[.int .i64 x, .int .i64 y], .agg #[.int .i64 u, .int .i64 v]]) ∧ (-3000000000 ≤ x ∧ x ≤ 3000000000) ∧ (-3000000000 ≤ y ∧ y ≤ 3000000000) ∧ (-3000000000 ≤ u ∧ u ≤ 3000000000) ∧ (-3000000000 ≤ v ∧ v ≤ 3000000000) ∧ Below w.heap.size w w'

set_option maxHeartbeats 1000000 in
theorem draw_two (w : World) (sv : Value) (l : List UInt8) (hl : l.length ≤ 1048576) (hc : Cur.Code w w.heap.size sv l) :
    Calls Try.prog 71 #[sv] w (TwoRats w) := by
  have HN := hid fun W (h : Cur.Code W W.heap.size sv l) => new_any W sv l hl h
  have KB := hid (((Below.refl w.heap.size w).alloc (Nat.le_refl _) (.cells #[.int .i64 0, .int .i64 0] 25)).alloc (by simp) (.cells #[.int .i64 0, .int .i64 0] 25))
  have K2 := hid ((has2_new w (.int .i64 0) (.int .i64 0) 25).alloc (.cells #[.int .i64 0, .int .i64 0] 25))
  have K3 := hid (has2_new (w.alloc (.cells #[.int .i64 0, .int .i64 0] 25)) (.int .i64 0) (.int .i64 0) 25)
  simp only [World.size_alloc] at K3
  have HC := hid ((hc.below KB.out (Nat.le_refl _)).higher (d := ((w.alloc (.cells #[.int .i64 0, .int .i64 0] 25)).alloc (.cells #[.int .i64 0, .int .i64 0] 25)).heap.size) (by simp; omega))
  clear hc
  go_enter Try.func71, Try.ntmps71
  go_wp2_with fail
  refine (HN.out _ HC.out).mono ?_
  rintro e w1 ⟨c, rfl, hcw, hc1, hb1⟩
  simp only [World.size_alloc] at hcw
  replace K2 := hid (K2.out.below hb1)
  replace K3 := hid (K3.out.below hb1)
  have B := hid (KB.out.trans (hb1.mono (by simp; omega)))
  have hs1 := B.out.size
  generalize ((0 : Nat), numH l (min 4000 l.length)) = s0 at hc1
  have HB := hid (draw_any c sv l s0 w1 hc1)
  have hlt1 := hc1.lt
  clear hc1 hb1 KB HC
  go_wp2_with fail
  refine HB.out.mono ?_
  rintro e w2 ⟨x, y, s1, rfl, hx, hy, C0, g1⟩
  have hs2 := g1.size
  replace K2 := hid (has2_grown K2.out g1 (fun e => by have e2 := Option.some.inj e; omega))
  replace K3 := hid (has2_grown K3.out g1 (fun e => by have e2 := Option.some.inj e; omega))
  replace B := hid (B.out.grown g1 hs1 (fun q hq => by have e2 := Option.some.inj hq; omega))
  have C := hid C0
  clear C0 g1 HB
  go_wp2
  have O5 := hid (has2_new w2 (.int .i64 x) (.int .i64 y) 25)
  replace K2 := hid (K2.out.alloc (.cells #[.int .i64 x, .int .i64 y] 25))
  replace K3 := hid (K3.out.alloc (.cells #[.int .i64 x, .int .i64 y] 25))
  replace B := hid (B.out.alloc B.out.size (.cells #[.int .i64 x, .int .i64 y] 25))
  have C5 := hid ((C.out.below (B := w2.heap.size) ((Below.refl _ _).alloc (Nat.le_refl _) (.cells #[.int .i64 x, .int .i64 y] 25)) (by omega)).drew)
  have HB := hid (draw_any c sv l s1 _ C5.out)
  have hzz : (w2.alloc (.cells #[.int .i64 x, .int .i64 y] 25)).heap.size = w2.heap.size + 1 := by simp
  have HZZ := hid hzz
  clear hzz C C5
  go_region_law (first
    | (go_simp; go_at_call 78; go_must (refine HB.out.mono ?_); rintro e w3 ⟨u, v, s3, rfl, hu, hv, C3, g3⟩; have G3 := hid g3; have k2 := hid (has2_grown K2.out.drew g3 (fun e => by have e2 := Option.some.inj e; omega)); have k3 := hid (has2_grown K3.out.drew g3 (fun e => by have e2 := Option.some.inj e; omega)); have k5 := hid (has2_grown O5.out.drew g3 (fun e => by have e2 := Option.some.inj e; omega)); obtain ⟨c2, f2, z2, y2, x2⟩ := k2.out; obtain ⟨c3, f3, z3, y3, x3⟩ := k3.out; obtain ⟨c5, f5, z5, y5, x5⟩ := k5.out; clear C3 g3))
  all_goals
    have hz3 : w2.heap.size + 1 ≤ w3.heap.size := by have h := G3.out.size; have h2 := HZZ.out; exact Nat.le_trans (Nat.le_of_eq h2.symm) h
    have o2 := hid (has2_far (i := 1) (has2_far (i := 0) (has2_put1 (u := .int .i64 y) (has2_put0 (u := .int .i64 x) k2.out)) (show w.heap.size ≠ w.heap.size + 1 by omega) (.int .i64 u)) (show w.heap.size ≠ w.heap.size + 1 by omega) (.int .i64 v))
    have o3 := hid (has2_put1 (u := .int .i64 v) (has2_put0 (u := .int .i64 u) (has2_far (i := 1) (has2_far (i := 0) k3.out (show w.heap.size + 1 ≠ w.heap.size by omega) (.int .i64 x)) (show w.heap.size + 1 ≠ w.heap.size by omega) (.int .i64 y))))
    obtain ⟨r0, r1, _, _, _⟩ := o2.out
    obtain ⟨r2, r3, _, _, _⟩ := o3.out
    have bf := hid (((((B.out.drew.grown G3.out B.out.size (fun q hq => by have e2 := Option.some.inj hq; omega)).setCell (p := ⟨w.heap.size, 0, none⟩) (Nat.le_refl _) (.int .i64 x)).setCell (p := ⟨w.heap.size, 1, none⟩) (Nat.le_refl _) (.int .i64 y)).setCell (p := ⟨w.heap.size + 1, 0, none⟩) (by simp) (.int .i64 u)).setCell (p := ⟨w.heap.size + 1, 1, none⟩) (by simp) (.int .i64 v))
    clear k2 k3 k5 G3 B
    go_wp2
    exact bodyPost_ret (v := .tuple #[.agg #[.int .i64 x, .int .i64 y], .agg #[.int .i64 u, .int .i64 v]]) (by simp [results, Try.results71, go_sem, r0, r1, r2, r3]) rfl ⟨x, y, u, v, rfl, hx, hy, hu, hv, bf.out⟩

theorem draw_add (w : World) (sv : Value) (l : List UInt8) (hl : l.length ≤ 1048576) (hc : Cur.Code w w.heap.size sv l) :
    Calls Try.prog 50 #[sv] w (TwoRats w) := by
  have KB := hid (((Below.refl w.heap.size w).alloc (Nat.le_refl _) (.cells #[.int .i64 0, .int .i64 0] 25)).alloc (by simp) (.cells #[.int .i64 0, .int .i64 0] 25))
  have K2 := hid ((has2_new w (.int .i64 0) (.int .i64 0) 25).alloc (.cells #[.int .i64 0, .int .i64 0] 25))
  have K3 := hid (has2_new (w.alloc (.cells #[.int .i64 0, .int .i64 0] 25)) (.int .i64 0) (.int .i64 0) 25)
  simp only [World.size_alloc] at K3
  have HT := hid (draw_two _ sv l hl ((hc.below KB.out (Nat.le_refl _)).higher (d := ((w.alloc (.cells #[.int .i64 0, .int .i64 0] 25)).alloc (.cells #[.int .i64 0, .int .i64 0] 25)).heap.size) (by simp; omega)))
  clear hc
  go_enter Try.func50, Try.ntmps50
  go_wp2_with fail
  refine HT.out.mono ?_
  rintro e w3 ⟨x, y, u, v, rfl, hx, hy, hu, hv, hb⟩
  have B := hid (KB.out.trans (hb.mono (by simp; omega)))
  have k2 := hid (K2.out.below hb)
  have k3 := hid (K3.out.below hb)
  obtain ⟨c2, f2, z2, y2, x2⟩ := k2.out
  obtain ⟨c3, f3, z3, y3, x3⟩ := k3.out
  have o2 := hid (has2_far (i := 1) (has2_far (i := 0) (has2_put1 (u := .int .i64 y) (has2_put0 (u := .int .i64 x) k2.out)) (show w.heap.size ≠ w.heap.size + 1 by omega) (.int .i64 u)) (show w.heap.size ≠ w.heap.size + 1 by omega) (.int .i64 v))
  have o3 := hid (has2_put1 (u := .int .i64 v) (has2_put0 (u := .int .i64 u) (has2_far (i := 1) (has2_far (i := 0) k3.out (show w.heap.size + 1 ≠ w.heap.size by omega) (.int .i64 x)) (show w.heap.size + 1 ≠ w.heap.size by omega) (.int .i64 y))))
  obtain ⟨r0, r1, _, _, _⟩ := o2.out
  obtain ⟨r2, r3, _, _, _⟩ := o3.out
  have bf := hid ((((B.out.setCell (p := ⟨w.heap.size, 0, none⟩) (Nat.le_refl _) (.int .i64 x)).setCell (p := ⟨w.heap.size, 1, none⟩) (Nat.le_refl _) (.int .i64 y)).setCell (p := ⟨w.heap.size + 1, 0, none⟩) (by simp) (.int .i64 u)).setCell (p := ⟨w.heap.size + 1, 1, none⟩) (by simp) (.int .i64 v))
  clear k2 k3 hb B
  go_wp2
  exact bodyPost_ret (v := .tuple #[.agg #[.int .i64 x, .int .i64 y], .agg #[.int .i64 u, .int .i64 v]]) (by simp [results, Try.results50, go_sem, r0, r1, r2, r3]) rfl ⟨x, y, u, v, rfl, hx, hy, hu, hv, bf.out⟩
end Go.Proofs.Ythghggnlfnbbgaa.DrawRat
