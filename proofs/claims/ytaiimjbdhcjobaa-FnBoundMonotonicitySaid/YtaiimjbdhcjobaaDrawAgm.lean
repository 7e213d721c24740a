/- The draws of chapter 15's bounds: lists of sizes, of exponents, of weights. -/
import Derived.Test.YtaiimjbdhcjobaaDrawBig
import Derived.Test.YtaiimjbdhcjobaaRatLaw
import Derived.Test.YtaiimjbdhcjobaaCells
import Derived.Test.YtaiimjbdhcjobaaRats
import Derived.Laws.AppendOwn
import Derived.Laws.OwnMore
import Derived.Test.YtaiimjbdhcjobaaScS
namespace Go.Proofs.Ytaiimjbdhcjobaa.DrawRat
open Go.RowKit
open Go.Proofs.Ytaiimjbdhcjobaa.Num Go.Proofs.Ytaiimjbdhcjobaa.Row Go.Proofs.Ytaiimjbdhcjobaa.Cur Go.Proofs.Ytaiimjbdhcjobaa.Draw Go.Proofs.Ytaiimjbdhcjobaa.Pick Go.Proofs.Ytaiimjbdhcjobaa.Rat Go.Proofs.Ytaiimjbdhcjobaa.New Go.Proofs.Ytaiimjbdhcjobaa.RatLaw Go.Proofs.Ytaiimjbdhcjobaa.Cells
open Go.Proofs.Ytaiimjbdhcjobaa.DrawBig (below_pos toss Drew Tossed list_cell grown_fresh grown_far cu_set)
set_option linter.unusedVariables false

/-- Some struct of two ints not above m; the cursor moved; nothing else of what was there is turned. -/
def RatAt (m : Int) (c : Nat) (sv : Value) (l : List UInt8) (w : World) (e : Ending) (w' : World) : Prop :=
  ∃ (x y : Int) (s : St), e = .returned (.agg #[.int .i64 x, .int .i64 y]) ∧ (-m ≤ x ∧ x ≤ m) ∧ (-m ≤ y ∧ y ≤ m) ∧ Cu w' c sv l s ∧ w.grownBy w' (some c)

theorem rx_bd (n d : Int) : (-1000000000 ≤ rx (nok n d) (nx n d) ∧ rx (nok n d) (nx n d) ≤ 1000000000) ∧ (-1000000000 ≤ rx (nok n d) (ny n d) ∧ rx (nok n d) (ny n d) ≤ 1000000000) := by
  cases h : nok n d with
  | false => simp [rx]
  | true =>
    unfold nok at h
    rw [Bool.and_eq_true] at h
    obtain ⟨a, b, c, e, _⟩ := vr_true h.2
    simp only [rx, if_true]
    omega
theorem has2_grown {w w' : World} {b : Nat} {x y : Value} {row : Option Nat} (h : Has2 w b x y) (hg : w.grownBy w' row) (hne : row ≠ some b) : Has2 w' b x y := by
  have hb := hg.block b h.2.2.1 (fun e => hne e.symm)
  exact ⟨(World.cell?_of_block (w := w) (a := ⟨b, 0, none⟩) hb).trans h.1, (World.cell?_of_block (w := w) (a := ⟨b, 1, none⟩) hb).trans h.2.1, Nat.lt_of_lt_of_le h.2.2.1 hg.size, (World.frozen?_of_block (w := w) (a := ⟨b, 0, none⟩) hb).trans h.2.2.2.1, (World.frozen?_of_block (w := w) (a := ⟨b, 1, none⟩) hb).trans h.2.2.2.2⟩
theorem has2_far {w : World} {b g i : Nat} {x y : Value} (h : Has2 w b x y) (hne : b ≠ g) (u : Value) : Has2 (w.setCell ⟨g, i, none⟩ u) b x y :=
  has2_grown h (grown_set w g i u) (fun e => hne (Option.some.inj e).symm)
theorem has2_put1 {w : World} {b : Nat} {x y u : Value} (h : Has2 w b x y) : Has2 (w.setCell ⟨b, 1, none⟩ u) b x u := by
  obtain ⟨h0, h1, h2, h3, h4⟩ := h
  exact ⟨by rw [World.cell?_setCell_other _ _ _ _ (by simp)]; exact h0, World.cell?_setCell_same _ _ _ h1, by simpa using h2, by rw [World.frozen?_setCell]; exact h3, by rw [World.frozen?_setCell]; exact h4⟩
theorem has2_put0 {w : World} {b : Nat} {x y u : Value} (h : Has2 w b x y) : Has2 (w.setCell ⟨b, 0, none⟩ u) b u y := by
  obtain ⟨h0, h1, h2, h3, h4⟩ := h
  exact ⟨World.cell?_setCell_same _ _ _ h0, by rw [World.cell?_setCell_other _ _ _ _ (by simp)]; exact h1, by simpa using h2, by rw [World.frozen?_setCell]; exact h3, by rw [World.frozen?_setCell]; exact h4⟩
theorem pick_bd (l : List UInt8) (zs : List Int) (s : St) (m : Int) (h0 : 0 ≤ m) (h : ∀ z ∈ zs, -m ≤ z ∧ z ≤ m) : -m ≤ (pickF l zs s).1 ∧ (pickF l zs s).1 ≤ m := by
  unfold pickF
  show -m ≤ zs.getD _ 0 ∧ zs.getD _ 0 ≤ m
  generalize (belowF l (zs.length : Nat) s).1.toNat = k
  rw [List.getD_eq_getElem?_getD]
  cases hk : zs[k]? with
  | none => exact ⟨by show -m ≤ 0; omega, h0⟩
  | some z => exact h z (List.mem_of_getElem? hk)
/-- A draw out of a list that the call has just laid. -/
def Picked (m : Int) (c : Nat) (sv : Value) (l : List UInt8) (w : World) (e : Ending) (w' : World) : Prop :=
  ∃ (x : Int) (s : St), e = .returned (.int .i64 x) ∧ (-m ≤ x ∧ x ≤ m) ∧ Cu w' c sv l s ∧ w.grownBy w' (some c)
theorem pick_list (c : Nat) (sv : Value) (l : List UInt8) (s : St) (w : World) (hc : Cu w c sv l s) (n : Nat) (zs : List Int) (m : Int) (hn : zs.length = n) (h1 : 1 ≤ n) (h2 : n ≤ 1000) (h0 : 0 ≤ m) (hm : ∀ z ∈ zs, -m ≤ z ∧ z ≤ m) (cs : Array Value) (hcs : cs = (zs.map (Value.int .i64)).toArray) :
    Calls Try.prog 92 #[.pointer (some ⟨c, 0, none⟩), .slice (some ⟨w.heap.size, 0, none⟩) n n] (w.alloc (.cells cs 3)) (Picked m c sv l (w.alloc (.cells cs 3))) := by
  subst hn hcs
  have hlt : c < w.heap.size := hc.lt
  refine (pick_any c sv l s _ (hc.below (B := w.heap.size) ((Below.refl _ _).alloc (Nat.le_refl _) _) hlt) w.heap.size zs.length zs h1 h2 (by omega) ?_).mono ?_
  · intro j hj
    refine (World.cell?_alloc_at _ _ _ _ rfl).trans ?_
    exact list_cell zs j hj
  · rintro e w' ⟨he, h1, h2⟩
    exact ⟨_, _, he, pick_bd l zs s m h0 hm, h1, h2⟩
theorem cu_below {w w' : World} {c : Nat} {sv : Value} {l : List UInt8} {s : St} (hc : Cu w c sv l s) (hb : Below w.heap.size w w') : Cu w' c sv l s := hc.below hb hc.lt
theorem grown_bel {w a b : World} {row : Option Nat} (h : w.grownBy a row) (g : Below a.heap.size a b) : w.grownBy b row :=
  ⟨g.os.trans h.os, g.tape.trans h.tape, g.output.trans h.output, Nat.le_trans h.size g.size, fun k hk hne => (g.block k (Nat.lt_of_lt_of_le hk h.size)).trans (h.block k hk hne)⟩

set_option maxHeartbeats 1000000 in
theorem draw_rat (c : Nat) (sv : Value) (l : List UInt8) (s : St) (w : World) (hc : Cu w c sv l s) :
    Calls Try.prog 179 #[.pointer (some ⟨c, 0, none⟩)] w (RatAt 1000000000 c sv l w) := by
  have hcw := hc.lt
  have K := hid (has2_new w (.int .i64 0) (.int .i64 0) 30)
  have C := hid (hc.below (B := w.heap.size) ((Below.refl _ _).alloc (Nat.le_refl _) (.cells #[.int .i64 0, .int .i64 0] 30)) hcw)
  have G := hid (World.grownBy_alloc w (.cells #[.int .i64 0, .int .i64 0] 30) (some c))
  clear hc
  go_enter Try.func179, Try.ntmps179
  go_wp2_with fail
  refine (below_pos c 41 sv l s _ C.out (by omega) (by omega)).mono ?_
  rintro e w1 ⟨x1, s1, rfl, hx1, C1, g1⟩
  replace K := hid (has2_grown K.out g1 (fun e => by have e2 := Option.some.inj e; omega))
  replace G := hid (Cur.grown_trans G.out g1)
  replace C := hid C1
  clear C1 g1
  go_wp2_with fail
  refine (below_pos c 12 sv l s1 _ C.out (by omega) (by omega)).mono ?_
  rintro e w2 ⟨x2, s2, rfl, hx2, C1, g1⟩
  replace K := hid (has2_grown K.out g1 (fun e => by have e2 := Option.some.inj e; omega))
  replace G := hid (Cur.grown_trans G.out g1)
  replace C := hid C1
  clear C1 g1
  have N := hid fun W => spec_new ((x1 : Int) - 20) (1 + (x2 : Int)) W (by omega) (by omega) (by omega) (by omega)
  have hbd := rx_bd ((x1 : Int) - 20) (1 + (x2 : Int))
  simp only [ratEnd_is] at N
  generalize rx (nok ((x1 : Int) - 20) (1 + (x2 : Int))) (nx ((x1 : Int) - 20) (1 + (x2 : Int))) = X at N hbd
  generalize rx (nok ((x1 : Int) - 20) (1 + (x2 : Int))) (ny ((x1 : Int) - 20) (1 + (x2 : Int))) = Y at N hbd
  generalize nok ((x1 : Int) - 20) (1 + (x2 : Int)) = ok at N
  go_wp2_with fail
  refine (N.out _).mono ?_
  rintro e w3 ⟨rfl, hb⟩
  replace K := hid (K.out.below hb)
  replace G := hid (grown_bel G.out hb)
  replace C := hid (cu_below C.out hb)
  clear hb N
  have hcw3 := C.out.lt
  have hz3 := K.out.2.2.1
  have O := hid (has2_new w3 (.int .i64 X) (.int .i64 Y) 30)
  replace K := hid (K.out.alloc (.cells #[.int .i64 X, .int .i64 Y] 30))
  replace G := hid (Cur.grown_trans G.out (World.grownBy_alloc w3 (.cells #[.int .i64 X, .int .i64 Y] 30) (some c)))
  replace C := hid (C.out.below (B := w3.heap.size) ((Below.refl _ _).alloc (Nat.le_refl _) (.cells #[.int .i64 X, .int .i64 Y] 30)) hcw3)
  go_wp2_with fail
  refine (toss c 12 sv l s2 _ C.out (by omega)).mono ?_
  rintro e w4 ⟨b, s4, rfl, C1, g1⟩
  replace K := hid (has2_grown K.out g1 (fun e => by have e2 := Option.some.inj e; omega))
  replace O := hid (has2_grown O.out g1 (fun e => by have e2 := Option.some.inj e; omega))
  replace G := hid (Cur.grown_trans G.out g1)
  replace C := hid C1
  clear C1 g1
  cases b with
  | false =>
    have hr := hid (K.out.set (u := .int .i64 X) (v := .int .i64 Y))
    have hC2 := hid (cu_set (i := 1) (cu_set (i := 0) C.out hcw (.int .i64 X)) hcw (.int .i64 Y))
    have hG2 := hid (grown_far (b := w.heap.size) (i := 1) (grown_far (b := w.heap.size) (i := 0) G.out (Nat.le_refl _) (.int .i64 X)) (Nat.le_refl _) (.int .i64 Y))
    obtain ⟨o0, o1, oz, of0, of1⟩ := O.out
    obtain ⟨k0, k1, kz, kf0, kf1⟩ := K.out
    obtain ⟨r0, r1⟩ := hr.out
    go_wp2
    exact bodyPost_ret (v := .agg #[.int .i64 X, .int .i64 Y]) (by simp [results, Try.results179, go_sem, r0, r1]) rfl ⟨X, Y, s4, rfl, hbd.1, hbd.2, hC2.out, hG2.out⟩
  | true =>
    go_wp2_with fail
    refine (pick_list c sv l s4 w4 C.out 4 [1000000000, -1000000000, 999999937, 1] 1000000000 rfl (by omega) (by omega) (by omega) (by decide) _ rfl).mono ?_
    rintro e w5 ⟨z1, s5, rfl, hz1b, C1, g1⟩
    have g2 := Cur.grown_trans (World.grownBy_alloc w4 (.cells #[.int .i64 1000000000, .int .i64 (-1000000000), .int .i64 999999937, .int .i64 1] 3) (some c)) g1
    replace K := hid (has2_grown K.out g2 (fun e => by have e2 := Option.some.inj e; omega))
    replace O := hid (has2_grown O.out g2 (fun e => by have e2 := Option.some.inj e; omega))
    replace G := hid (Cur.grown_trans G.out g2)
    replace C := hid C1
    clear C1 g1 g2
    go_wp2_with fail
    refine (pick_list c sv l s5 w5 C.out 3 [1, 1000000000, 999999893] 1000000000 rfl (by omega) (by omega) (by omega) (by decide) _ rfl).mono ?_
    rintro e w6 ⟨z2, s6, rfl, hz2b, C1, g1⟩
    have g2 := Cur.grown_trans (World.grownBy_alloc w5 (.cells #[.int .i64 1, .int .i64 1000000000, .int .i64 999999893] 3) (some c)) g1
    replace K := hid (has2_grown K.out g2 (fun e => by have e2 := Option.some.inj e; omega))
    replace O := hid (has2_grown O.out g2 (fun e => by have e2 := Option.some.inj e; omega))
    replace G := hid (Cur.grown_trans G.out g2)
    replace C := hid C1
    clear C1 g1 g2
    have N := hid fun W => spec_new z1 z2 W (by omega) (by omega) (by omega) (by omega)
    have hbd2 := rx_bd z1 z2
    simp only [ratEnd_is] at N
    generalize rx (nok z1 z2) (nx z1 z2) = X2 at N hbd2
    generalize rx (nok z1 z2) (ny z1 z2) = Y2 at N hbd2
    generalize nok z1 z2 = ok2 at N
    go_wp2_with fail
    refine (N.out _).mono ?_
    rintro e w7 ⟨rfl, hb⟩
    replace K := hid (K.out.below hb)
    replace O := hid (O.out.below hb)
    replace G := hid (grown_bel G.out hb)
    replace C := hid (cu_below C.out hb)
    clear hb N
    have O2 := hid (has2_put1 (u := .int .i64 Y2) (has2_put0 (u := .int .i64 X2) O.out))
    have K2 := hid (has2_far (i := 1) (has2_far (i := 0) K.out (show w.heap.size ≠ w3.heap.size by omega) (.int .i64 X2)) (show w.heap.size ≠ w3.heap.size by omega) (.int .i64 Y2))
    have hr := hid (K2.out.set (u := .int .i64 X2) (v := .int .i64 Y2))
    have hC2 := hid (cu_set (i := 1) (cu_set (i := 0) (cu_set (i := 1) (cu_set (i := 0) C.out hcw3 (.int .i64 X2)) hcw3 (.int .i64 Y2)) hcw (.int .i64 X2)) hcw (.int .i64 Y2))
    have hG2 := hid (grown_far (b := w.heap.size) (i := 1) (grown_far (b := w.heap.size) (i := 0) (grown_far (b := w3.heap.size) (i := 1) (grown_far (b := w3.heap.size) (i := 0) G.out (by omega) (.int .i64 X2)) (by omega) (.int .i64 Y2)) (Nat.le_refl _) (.int .i64 X2)) (Nat.le_refl _) (.int .i64 Y2))
    obtain ⟨o0, o1, oz, of0, of1⟩ := O.out
    obtain ⟨p0, p1, pz, pf0, pf1⟩ := O2.out
    obtain ⟨k0, k1, kz, kf0, kf1⟩ := K2.out
    obtain ⟨r0, r1⟩ := hr.out
    go_wp2
    exact bodyPost_ret (v := .agg #[.int .i64 X2, .int .i64 Y2]) (by simp [results, Try.results179, go_sem, r0, r1]) rfl ⟨X2, Y2, s6, rfl, hbd2.1, hbd2.2, hC2.out, hG2.out⟩

set_option maxHeartbeats 1000000 in
theorem draw_any (c : Nat) (sv : Value) (l : List UInt8) (s : St) (w : World) (hc : Cu w c sv l s) :
    Calls Try.prog 143 #[.pointer (some ⟨c, 0, none⟩)] w (RatAt 3000000000 c sv l w) := by
  have hcw := hc.lt
  have K := hid (has2_new w (.int .i64 0) (.int .i64 0) 30)
  have C := hid (hc.below (B := w.heap.size) ((Below.refl _ _).alloc (Nat.le_refl _) (.cells #[.int .i64 0, .int .i64 0] 30)) hcw)
  have G := hid (World.grownBy_alloc w (.cells #[.int .i64 0, .int .i64 0] 30) (some c))
  clear hc
  go_enter Try.func143, Try.ntmps143
  go_wp2_with fail
  refine (draw_rat c sv l s _ C.out).mono ?_
  rintro e w3 ⟨X, Y, s1, rfl, hX, hY, C1, g1⟩
  replace K := hid (has2_grown K.out g1 (fun e => by have e2 := Option.some.inj e; omega))
  replace G := hid (Cur.grown_trans G.out g1)
  replace C := hid C1
  clear C1 g1
  have hcw3 := C.out.lt
  have hz3 := K.out.2.2.1
  obtain ⟨hX0, hX1⟩ := hX
  obtain ⟨hY0, hY1⟩ := hY
  have O := hid (has2_new w3 (.int .i64 X) (.int .i64 Y) 30)
  replace K := hid (K.out.alloc (.cells #[.int .i64 X, .int .i64 Y] 30))
  replace G := hid (Cur.grown_trans G.out (World.grownBy_alloc w3 (.cells #[.int .i64 X, .int .i64 Y] 30) (some c)))
  replace C := hid (C.out.below (B := w3.heap.size) ((Below.refl _ _).alloc (Nat.le_refl _) (.cells #[.int .i64 X, .int .i64 Y] 30)) hcw3)
  go_wp2_with fail
  refine (below_pos c 14 sv l s1 _ C.out (by omega) (by omega)).mono ?_
  rintro e w4 ⟨t, s4, rfl, ht, C1, g1⟩
  replace K := hid (has2_grown K.out g1 (fun e => by have e2 := Option.some.inj e; omega))
  replace O := hid (has2_grown O.out g1 (fun e => by have e2 := Option.some.inj e; omega))
  replace G := hid (Cur.grown_trans G.out g1)
  replace C := hid C1
  clear C1 g1
  by_cases h0 : t = 0
  · subst h0
    go_wp2_with fail
    refine (pick_list c sv l s4 w4 C.out 3 [0, -1, 1000000001] 3000000000 rfl (by omega) (by omega) (by omega) (by decide) _ rfl).mono ?_
    rintro e w5 ⟨z, s5, rfl, ⟨hz0, hz1⟩, C1, g1⟩
    have g2 := Cur.grown_trans (World.grownBy_alloc w4 (.cells #[.int .i64 0, .int .i64 (-1), .int .i64 1000000001] 3) (some c)) g1
    replace K := hid (has2_grown K.out g2 (fun e => by have e2 := Option.some.inj e; omega))
    replace O := hid (has2_grown O.out g2 (fun e => by have e2 := Option.some.inj e; omega))
    replace G := hid (Cur.grown_trans G.out g2)
    replace C := hid C1
    clear C1 g1 g2
    have O2 := hid (has2_put1 (u := .int .i64 z) O.out)
    have K2 := hid (has2_far (i := 1) K.out (show w.heap.size ≠ w3.heap.size by omega) (.int .i64 z))
    have hr := hid (K2.out.set (u := .int .i64 X) (v := .int .i64 z))
    have hC2 := hid (cu_set (i := 1) (cu_set (i := 0) (cu_set (i := 1) C.out hcw3 (.int .i64 z)) hcw (.int .i64 X)) hcw (.int .i64 z))
    have hG2 := hid (grown_far (b := w.heap.size) (i := 1) (grown_far (b := w.heap.size) (i := 0) (grown_far (b := w3.heap.size) (i := 1) G.out (by omega) (.int .i64 z)) (Nat.le_refl _) (.int .i64 X)) (Nat.le_refl _) (.int .i64 z))
    obtain ⟨o0, o1, oz, of0, of1⟩ := O.out
    obtain ⟨p0, p1, pz, pf0, pf1⟩ := O2.out
    obtain ⟨k0, k1, kz, kf0, kf1⟩ := K2.out
    obtain ⟨r0, r1⟩ := hr.out
    go_wp2
    exact bodyPost_ret (v := .agg #[.int .i64 X, .int .i64 z]) (by simp [results, Try.results143, go_sem, r0, r1]) rfl ⟨X, z, s5, rfl, ⟨by omega, by omega⟩, ⟨by omega, by omega⟩, hC2.out, hG2.out⟩
  · by_cases h1 : t = 1
    · subst h1
      have OO := O
      obtain ⟨o0, o1, oz, of0, of1⟩ := O.out
      go_wp2_with fail
      refine (pick_list c sv l s4 w4 C.out 3 [1000000001, -1000000001, 2 * Y] 3000000000 rfl (by omega) (by omega) (by omega) (by
        intro q hq
        simp only [List.mem_cons, List.not_mem_nil, or_false] at hq
        rcases hq with rfl | rfl | rfl <;> omega) _ rfl).mono ?_
      rintro e w5 ⟨z, s5, rfl, ⟨hz0, hz1⟩, C1, g1⟩
      have g2 := Cur.grown_trans (World.grownBy_alloc w4 (.cells #[.int .i64 1000000001, .int .i64 (-1000000001), .int .i64 (2 * Y)] 3) (some c)) g1
      replace K := hid (has2_grown K.out g2 (fun e => by have e2 := Option.some.inj e; omega))
      replace O := hid (has2_grown OO.out g2 (fun e => by have e2 := Option.some.inj e; omega))
      replace G := hid (Cur.grown_trans G.out g2)
      replace C := hid C1
      clear C1 g1 g2 o0 o1 oz of0 of1 OO
      have O2 := hid (has2_put0 (u := .int .i64 z) O.out)
      have K2 := hid (has2_far (i := 0) K.out (show w.heap.size ≠ w3.heap.size by omega) (.int .i64 z))
      have hr := hid (K2.out.set (u := .int .i64 z) (v := .int .i64 Y))
      have hC2 := hid (cu_set (i := 1) (cu_set (i := 0) (cu_set (i := 0) C.out hcw3 (.int .i64 z)) hcw (.int .i64 z)) hcw (.int .i64 Y))
      have hG2 := hid (grown_far (b := w.heap.size) (i := 1) (grown_far (b := w.heap.size) (i := 0) (grown_far (b := w3.heap.size) (i := 0) G.out (by omega) (.int .i64 z)) (Nat.le_refl _) (.int .i64 z)) (Nat.le_refl _) (.int .i64 Y))
      obtain ⟨o0, o1, oz, of0, of1⟩ := O.out
      obtain ⟨p0, p1, pz, pf0, pf1⟩ := O2.out
      obtain ⟨k0, k1, kz, kf0, kf1⟩ := K2.out
      obtain ⟨r0, r1⟩ := hr.out
      go_wp2
      exact bodyPost_ret (v := .agg #[.int .i64 z, .int .i64 Y]) (by simp [results, Try.results143, go_sem, r0, r1]) rfl ⟨z, Y, s5, rfl, ⟨by omega, by omega⟩, ⟨by omega, by omega⟩, hC2.out, hG2.out⟩
    · have t0 : ((t : Int) == 0) = false := by rw [beq_eq_false_iff_ne]; omega
      have t1 : ((t : Int) == 1) = false := by rw [beq_eq_false_iff_ne]; omega
      have hr := hid (K.out.set (u := .int .i64 X) (v := .int .i64 Y))
      have hC2 := hid (cu_set (i := 1) (cu_set (i := 0) C.out hcw (.int .i64 X)) hcw (.int .i64 Y))
      have hG2 := hid (grown_far (b := w.heap.size) (i := 1) (grown_far (b := w.heap.size) (i := 0) G.out (Nat.le_refl _) (.int .i64 X)) (Nat.le_refl _) (.int .i64 Y))
      obtain ⟨o0, o1, oz, of0, of1⟩ := O.out
      obtain ⟨k0, k1, kz, kf0, kf1⟩ := K.out
      obtain ⟨r0, r1⟩ := hr.out
      go_wp2
      exact bodyPost_ret (v := .agg #[.int .i64 X, .int .i64 Y]) (by simp [results, Try.results143, go_sem, r0, r1]) rfl ⟨X, Y, s4, rfl, ⟨by omega, by omega⟩, ⟨by omega, by omega⟩, hC2.out, hG2.out⟩

end Go.Proofs.Ytaiimjbdhcjobaa.DrawRat

namespace Go.Proofs.Ytaiimjbdhcjobaa.RatRow
open Go.RowKit
open Go.Proofs.Ytaiimjbdhcjobaa.IntRow Go.Proofs.Ytaiimjbdhcjobaa.Rdr Go.Proofs.Ytaiimjbdhcjobaa.HasL Go.Proofs.Ytaiimjbdhcjobaa.Rats
set_option linter.unusedVariables false

def fr : List RatD → List Value
  | [] => []
  | p :: ps => .int .i64 p.1 :: .int .i64 p.2 :: fr ps
theorem fr_len (xs : List RatD) : (fr xs).length = xs.length * 2 := by
  induction xs with
  | nil => rfl
  | cons p ps ih => simp only [fr, List.length_cons, ih]; omega
theorem fr_app (xs ys : List RatD) : fr (xs ++ ys) = fr xs ++ fr ys := by
  induction xs with
  | nil => rfl
  | cons p ps ih => simp only [List.cons_append, fr, ih]
theorem fr_at (xs : List RatD) (j : Nat) (h : j < xs.length) : (fr xs)[j * 2]? = some (.int .i64 xs[j].1) ∧ (fr xs)[j * 2 + 1]? = some (.int .i64 xs[j].2) := by
  induction xs generalizing j with
  | nil => simp at h
  | cons p ps ih =>
    cases j with
    | zero => exact ⟨rfl, rfl⟩
    | succ j =>
      have := ih j (by simpa using h)
      rw [show (j + 1) * 2 = j * 2 + 1 + 1 by omega]
      simpa only [fr, List.getElem?_cons_succ, List.getElem_cons_succ] using this
def OwnR (w : World) (base : Nat) (e : TypeId) (v : Value) (xs : List RatD) : Prop := w.ownsRow base e 2 v xs.length (fr xs)
theorem OwnR.lt {w : World} {base : Nat} {e : TypeId} {v : Value} {xs : List RatD} (h : OwnR w base e v xs) : ∀ k, v.ownBlock = some k → base ≤ k ∧ k < w.heap.size := World.ownsRow.lt h
theorem OwnR.below' {w w' : World} {base : Nat} {e : TypeId} {v : Value} {xs : List RatD} (h : OwnR w base e v xs) (hb : Below w.heap.size w w') : OwnR w' base e v xs := ownk_below h hb (fun q hq => (h.lt q hq).2)
theorem ownR_lit (w : World) (base : Nat) (e : TypeId) (hb : base ≤ w.heap.size) : OwnR (w.alloc (.cells #[] e)) base e (.slice (some ⟨w.heap.size, 0, none⟩) 0 0) [] := World.ownsRow_made w #[] 0 hb (by decide) (by decide)
theorem ownR_nil (w : World) (base : Nat) (e : TypeId) : OwnR w base e (.slice none 0 0) [] := World.ownsRow_nil w base e 2
theorem OwnR.els {w : World} {base : Nat} {e : TypeId} {v : Value} {xs : List RatD} (h : OwnR w base e v xs) (hi : ∀ j (hj : j < xs.length), Ib xs[j].1 ∧ Ib xs[j].2) : ∃ a cap, v = .slice a xs.length cap ∧ Els 2 rRat w base w.heap.size a xs := by
  obtain ⟨hl, hh⟩ := id h
  rcases hh with ⟨rfl, h0⟩ | ⟨g, cap, cur, rfl, hb, hg, hn, hc, _⟩
  · exact ⟨none, 0, by rw [h0], fun hp => by omega⟩
  · refine ⟨_, cap, rfl, fun hp => ⟨g, 0, rfl, hb, (h.lt g rfl).2, fun j hj => ⟨[.int .i64 xs[j].1, .int .i64 xs[j].2], rfl, fun i hi2 => ?_, rat_mk (hi j hj).1 (hi j hj).2⟩⟩⟩
    have h' : w.ownsRow base e 2 (.slice (some ⟨g, 0, none⟩) xs.length cap) xs.length (fr xs) := h
    have hf := fr_at xs j hj
    match i, hi2 with
    | 0, _ => rw [Nat.zero_add, Nat.add_zero, World.ownsRow.cellAt h' _ (by omega), hf.1]; rfl
    | 1, _ => rw [Nat.zero_add, World.ownsRow.cellAt h' _ (by omega), hf.2]; rfl

section
variable {P : Program}
/-- 'append(v, r)' as a walk meets it: the rational lies in a new block of two cells. -/
theorem append_rat {ops : Array Oper} {rest : List Oper} {o : Oper} {a : Act} {Q : Exit → Act → World → Prop} (hgd : o.guard = none) (s x : Operand) (t : TypeId)
    (ho : o.op = .call { callee := .builtin .append, args := #[s, x], argTypes := #[t, t] })
    (base : Nat) (e : TypeId) (i : TypeInfo) (ht : P.underlying t = some (.slice e)) (hi : P.info? e = some i) (hz : i.zero = some (.agg #[.int .i64 0, .int .i64 0]))
    (hsize : i.size = 2) (hby : i.bytes = 16) (wr : World) (v : Value) (l : List RatD) (c : RatD) (hown : OwnR wr base e v l) (hs : a.eval s = v) (hbase : base ≤ wr.heap.size)
    (hx : a.eval x = .slice (some ⟨wr.heap.size, 0, none⟩) 1 1) (hlen : l.length ≤ 4398046511104)
    (h : ∀ v' w', OwnR w' base e v' (l ++ [c]) → Below base wr w' → base ≤ w'.heap.size → wpList P ops Q rest (a.put o.dst v') w') :
    wpList P ops Q (o :: rest) a (wr.alloc (.cells #[.int .i64 c.1, .int .i64 c.2] e)) := by
  refine wpList_append_own _ hgd s x t ho base e i (.agg #[.int .i64 0, .int .i64 0]) 2 16 ht hi hz hsize hby rfl (by decide) v l.length (fr l) hs (World.ownsRow.alloc hown _) ⟨wr.heap.size, 0, none⟩ 1 1 (fr [c]) hx rfl ?_ ?_ ?_ ?_ ?_ ?_
  · intro j u hj
    match j, hj with
    | 0, hj => simp [fr] at hj; subst hj; simp [Addr.add]
    | 1, hj => simp [fr] at hj; subst hj; simp [Addr.add]
    | j + 2, hj => simp [fr] at hj
  · intro u hu
    simp [fr] at hu
    rcases hu with rfl | rfl <;> rfl
  · unfold maxLen; omega
  · omega
  · simp; omega
  · intro v' w' hown' hgrow _
    refine h v' w' ?_ ?_ ?_
    · unfold OwnR
      rw [fr_app]
      simpa using hown'
    · exact ((Below.refl base wr).alloc hbase _).grown hgrow (by simp; omega) (fun k hk => (hown.lt k hk).1)
    · have := hgrow.size
      simp at this
      omega
end
end Go.Proofs.Ytaiimjbdhcjobaa.RatRow

namespace Go.Proofs.Ytaiimjbdhcjobaa.DrawWts
open Go.RowKit
open Go.Proofs.Ytaiimjbdhcjobaa.Num Go.Proofs.Ytaiimjbdhcjobaa.Row Go.Proofs.Ytaiimjbdhcjobaa.Cur Go.Proofs.Ytaiimjbdhcjobaa.Draw Go.Proofs.Ytaiimjbdhcjobaa.Pick Go.Proofs.Ytaiimjbdhcjobaa.Rat Go.Proofs.Ytaiimjbdhcjobaa.New Go.Proofs.Ytaiimjbdhcjobaa.RatLaw Go.Proofs.Ytaiimjbdhcjobaa.Cells Go.Proofs.Ytaiimjbdhcjobaa.Rdr Go.Proofs.Ytaiimjbdhcjobaa.HasL Go.Proofs.Ytaiimjbdhcjobaa.Rats Go.Proofs.Ytaiimjbdhcjobaa.RatRow Go.Proofs.Ytaiimjbdhcjobaa.DrawRat
open Go.Proofs.Ytaiimjbdhcjobaa.DrawBig (below_pos toss Drew Tossed list_cell grown_fresh grown_far cu_set)
set_option linter.unusedVariables false

/-- Some rationals in a slice of the call's own; the cursor moved. -/
def WtsAt (c : Nat) (sv : Value) (l : List UInt8) (w : World) (e : Ending) (w' : World) : Prop :=
  ∃ (a : Option Addr) (cap : Nat) (xs : List RatD) (s : St), e = .returned (.slice a xs.length cap) ∧ xs.length ≤ 6 ∧ Els 2 rRat w' w.heap.size w'.heap.size a xs ∧ Cu w' c sv l s ∧ w.grownBy w' (some c)
theorem grown_low {w a b : World} {row : Option Nat} (h : w.grownBy a row) (g : Below w.heap.size a b) : w.grownBy b row :=
  ⟨g.os.trans h.os, g.tape.trans h.tape, g.output.trans h.output, Nat.le_trans h.size g.size, fun k hk hne => (g.block k hk).trans (h.block k hk hne)⟩
theorem OwnR.grown {w w' : World} {base c : Nat} {e : TypeId} {v : Value} {xs : List RatD} (h : OwnR w base e v xs) (hg : w.grownBy w' (some c)) (hc : c < base) : OwnR w' base e v xs :=
  World.ownsRow.kept h hg (.inr (fun e => by have := (h.lt c e).1; omega))
def AllB (xs : List RatD) : Prop := ∀ j (hj : j < xs.length), Ib xs[j].1 ∧ Ib xs[j].2
theorem allB_nil : AllB [] := fun j hj => by simp at hj
theorem allB_app {xs : List RatD} {x y : Int} (h : AllB xs) (h1 : Ib x) (h2 : Ib y) : AllB (xs ++ [(x, y)]) := fun j hj => by
  rw [List.length_append, List.length_singleton] at hj
  by_cases e : j < xs.length
  · rw [List.getElem_append_left e]; exact h j e
  · rw [List.getElem_append_right (by omega)]; simp; exact ⟨h1, h2⟩
theorem allB_set {xs : List RatD} {x y : Int} (h : AllB xs) (h1 : Ib x) (h2 : Ib y) : AllB (xs.set 0 (x, y)) := fun j hj => by
  rw [List.length_set] at hj
  rw [List.getElem_set]
  split
  · exact ⟨h1, h2⟩
  · exact h j hj
theorem fr_set {p q : RatD} {ps : List RatD} : ((fr (p :: ps)).set 0 (.int .i64 q.1)).set 1 (.int .i64 q.2) = fr ((p :: ps).set 0 q) := by simp [fr]

set_option maxRecDepth 100000 in
set_option maxHeartbeats 1000000 in
theorem draw_wts (c : Nat) (n : Nat) (sv : Value) (l : List UInt8) (s : St) (w : World) (hn : n ≤ 6) (hc : Cu w c sv l s) :
    Calls Try.prog 91 #[.pointer (some ⟨c, 0, none⟩), .int .i64 n] w (WtsAt c sv l w) := by
  obtain ⟨i0, hi0, hz0, hz1, hz2⟩ := info_parts infoRat
  have hcw := hc.lt
  have C0 := hid (hc.below (B := w.heap.size) ((Below.refl _ _).alloc (Nat.le_refl _) (.cells #[] 30)) hcw)
  have G0 := hid (World.grownBy_alloc w (.cells #[] 30) (some c))
  have O0 := hid (ownR_lit w w.heap.size 30 (Nat.le_refl _))
  clear hc
  go_enter Try.func91, Try.ntmps91
  go_wp2
  go_loopw [5, 6, 7] (fun v _ _ wr => ∃ (a : Option Addr) (cap : Nat) (xs : List RatD) (s : St), v = .slice a xs.length cap ∧ xs.length ≤ n ∧ Hid (AllB xs) ∧ Hid (OwnR wr w.heap.size 30 (.slice a xs.length cap) xs) ∧ Hid (Cu wr c sv l s) ∧ Hid (w.grownBy wr (some c))) (fun v _ _ _ => n - (match v with | .slice _ k _ => k | _ => 0))
  case atStart => exact ⟨_, 0, [], s, rfl, Nat.zero_le _, hid allB_nil, O0, C0, G0⟩
  case round =>
    obtain ⟨a, cap, xs, s1, rfl, hxn, hall, ho, hc, hg⟩ := hrel
    clear C0 G0 O0
    have hsz := hg.out.size
    by_cases hlt : xs.length < n
    · have hlt' : (xs.length : Int) < (n : Int) := by omega
      go_wp2_with fail
      refine (below_pos c 4 sv l s1 _ hc.out (by omega) (by omega)).mono ?_
      rintro e w1 ⟨x1, s2, rfl, hx1, C1, g1⟩
      have G1 := hid (Cur.grown_trans hg.out g1)
      have O1 := hid (OwnR.grown ho.out g1 hcw)
      have C1h := hid C1
      clear hg ho hc C1 g1
      go_wp2_with fail
      refine (pick_list c sv l s2 _ C1h.out 4 [1, 2, 2, 3] 3 rfl (by omega) (by omega) (by omega) (by decide) _ (by rfl)).mono ?_
      rintro e w2 ⟨x2, s3, rfl, hx2, C2, g2⟩
      have hcw1 := C1h.out.lt
      have G2 := hid (Cur.grown_trans (Cur.grown_trans G1.out (World.grownBy_alloc w1 (.cells #[.int .i64 1, .int .i64 2, .int .i64 2, .int .i64 3] 3) (some c))) g2)
      have O2 := hid (OwnR.grown (OwnR.below' O1.out ((Below.refl _ _).alloc (Nat.le_refl _) (.cells #[.int .i64 1, .int .i64 2, .int .i64 2, .int .i64 3] 3))) g2 hcw)
      have C2h := hid C2
      clear G1 O1 C1h C2 g2
      have N := hid fun W => spec_new (x1 : Int) x2 W (by omega) (by omega) (by omega) (by omega)
      have hbd := rx_bd (x1 : Int) x2
      simp only [ratEnd_is] at N
      generalize rx (nok (x1 : Int) x2) (nx (x1 : Int) x2) = X at N hbd
      generalize rx (nok (x1 : Int) x2) (ny (x1 : Int) x2) = Y at N hbd
      generalize nok (x1 : Int) x2 = ok at N
      go_wp2_with fail
      refine (N.out _).mono ?_
      rintro e w3 ⟨rfl, hb⟩
      have G3 := hid (grown_bel G2.out hb)
      have O3 := hid (OwnR.below' O2.out hb)
      have C3 := hid (cu_below C2h.out hb)
      clear hb N G2 O2 C2h
      have hsz3 := G3.out.size
      have hcw3 := C3.out.lt
      have KN := hid (hasl_new w3 [.int .i64 X, .int .i64 Y] 30)
      have G4 := hid (Cur.grown_trans G3.out (World.grownBy_alloc w3 (.cells #[.int .i64 X, .int .i64 Y] 30) (some c)))
      have O4 := hid (OwnR.below' O3.out ((Below.refl _ _).alloc (Nat.le_refl _) (.cells #[.int .i64 X, .int .i64 Y] 30)))
      have C4 := hid (cu_below C3.out ((Below.refl _ _).alloc (Nat.le_refl _) (.cells #[.int .i64 X, .int .i64 Y] 30)))
      have hsz4 : w.heap.size ≤ (w3.alloc (.cells #[.int .i64 X, .int .i64 Y] 30)).heap.size := by simp; omega
      have HA := hid (allB_app (x := X) (y := Y) hall.out ⟨by omega, by omega⟩ ⟨by omega, by omega⟩)
      obtain ⟨n0, n1, n2, n3, n4⟩ := KN.out.two
      clear G3 O3 C3 hall
      go_wp2_with (at_builtin; refine append_rat rfl _ _ 25 rfl w.heap.size 30 i0 Try.underlying25 hi0 hz0 hz1 hz2 (w3.alloc (.cells #[.int .i64 X, .int .i64 Y] 30)) _ xs (X, Y) O4.out (by rfl) hsz4 (by simp only [World.size_alloc]; rfl) (by omega) ?_)
      intro v1 w5 hown1 hbel1 hsz5
      obtain ⟨a5, cap5, hv5, _⟩ := hown1.els HA.out
      have hl5 : (xs ++ [(X, Y)]).length = xs.length + 1 := by simp
      rw [hl5] at hv5
      subst hv5
      have HO := hid hown1
      have HG := hid (grown_low G4.out hbel1)
      have HC := hid (C4.out.below hbel1 hcw)
      have HL := hid hl5
      clear hown1 hbel1 G4 O4 C4 n0 n1 n2 n3 n4 KN hl5
      go_wp2
      go_roundw
      case rel => exact ⟨a5, cap5, xs ++ [(X, Y)], s3, by rw [HL.out], by rw [HL.out]; omega, HA, by rw [HL.out]; exact HO, HC, HG⟩
      case measure => simp; omega
    · have hlt' : ¬ (xs.length : Int) < (n : Int) := by omega
      cases xs with
      | nil =>
        have hlz : ¬ (0 : Int) < ((([] : List RatD).length : Nat) : Int) := by simp
        obtain ⟨a', cap', hv, hel⟩ := ho.out.els hall.out
        simp only [Value.slice.injEq] at hv
        obtain ⟨rfl, _, rfl⟩ := hv
        have HE := hid (hel.up good_rat (Nat.le_refl _) (Nat.le_refl _))
        clear hel ho
        go_wp2
        go_ret
        exact ⟨a, cap, [], s1, rfl, by simp, HE.out, hc.out, hg.out⟩
      | cons p ps =>
        have hlz : (0 : Int) < (((p :: ps).length : Nat) : Int) := by rw [List.length_cons]; omega
        obtain ⟨m, hm⟩ : ∃ m, (p :: ps).length = m := ⟨_, rfl⟩
        have hm0 : 0 < m := by rw [← hm]; simp
        rw [hm] at hlz hlt' hxn hlt
        have HM := hid hm
        rw [hm]
        clear hm
        go_wp2_with fail
        refine (toss c 12 sv l s1 _ hc.out (by omega)).mono ?_
        rintro e w1 ⟨b, s2, rfl, C1, g1⟩
        have G1 := hid (Cur.grown_trans hg.out g1)
        have O1 := hid (OwnR.grown ho.out g1 hcw)
        have C1h := hid C1
        clear hg ho hc C1 g1
        cases b with
        | false =>
          obtain ⟨a', cap', hv, hel⟩ := O1.out.els hall.out
          simp only [Value.slice.injEq] at hv
          obtain ⟨rfl, _, rfl⟩ := hv
          have HE := hid hel
          clear hel
          go_wp2
          go_ret
          exact ⟨a, cap, p :: ps, s2, by rw [HM.out]; rfl, by rw [HM.out]; omega, HE.out, C1h.out, G1.out⟩
        | true =>
          go_wp2_with fail
          refine (draw_any c sv l s2 _ C1h.out).mono ?_
          rintro e w2 ⟨x, y, s3, rfl, hx, hy, C2, g2⟩
          have G2 := hid (Cur.grown_trans G1.out g2)
          have O2 := OwnR.grown O1.out g2 hcw
          have C2h := hid C2
          clear G1 O1 C1h C2 g2
          have hO2 := O2
          obtain ⟨hol, hor⟩ := hO2
          rcases hor with ⟨_, h0⟩ | ⟨g, cap2, cur, hv, hgb, _⟩
          · simp at h0
          · simp only [Value.slice.injEq, true_and] at hv
            obtain ⟨rfl, rfl⟩ := hv
            have hO : w2.ownsRow w.heap.size 30 2 (.slice (some ⟨g, 0, none⟩) (p :: ps).length cap) (p :: ps).length (fr (p :: ps)) := O2
            have e0 : w2.cell? ⟨g, 0, none⟩ = some (.int .i64 p.1) := by rw [World.ownsRow.cellAt hO 0 (by rw [List.length_cons]; omega)]; rfl
            have e1 : w2.cell? ⟨g, 1, none⟩ = some (.int .i64 p.2) := by rw [World.ownsRow.cellAt hO 1 (by rw [List.length_cons]; omega)]; rfl
            have f0 := World.ownsRow.frozenAt hO 0
            have f1 := World.ownsRow.frozenAt hO 1
            have O3 := (World.ownsRow.stored hO 0 (.int .i64 x)).1
            have O4 := (World.ownsRow.stored O3 1 (.int .i64 y)).1
            rw [fr_set (q := (x, y))] at O4
            have hsl : ((p :: ps).set 0 (x, y)).length = (p :: ps).length := by simp
            rw [← hsl] at O4
            have HA := hid (allB_set (x := x) (y := y) hall.out ⟨by omega, by omega⟩ ⟨by omega, by omega⟩)
            obtain ⟨a', cap', hv, hel⟩ := OwnR.els (show OwnR _ w.heap.size 30 (.slice (some ⟨g, 0, none⟩) ((p :: ps).set 0 (x, y)).length cap) ((p :: ps).set 0 (x, y)) from O4) HA.out
            simp only [Value.slice.injEq] at hv
            obtain ⟨rfl, _, rfl⟩ := hv
            have HE := hid hel
            have HC := hid (cu_set (i := 1) (cu_set (i := 0) C2h.out (show c < g by omega) (.int .i64 x)) (show c < g by omega) (.int .i64 y))
            have HG := hid (grown_far (b := g) (i := 1) (grown_far (b := g) (i := 0) G2.out hgb (.int .i64 x)) hgb (.int .i64 y))
            have HSL := hid (hsl.trans HM.out)
            clear hel O4 O3 hO O2 hol C2h G2 hsl hall
            go_wp2
            go_ret
            exact ⟨some ⟨g, 0, none⟩, cap, (p :: ps).set 0 (x, y), s3, by rw [HSL.out]; rfl, by rw [HSL.out]; omega, HE.out, HC.out, HG.out⟩

end Go.Proofs.Ytaiimjbdhcjobaa.DrawWts

namespace Go.Proofs.Ytaiimjbdhcjobaa.DrawAgm
open Go.RowKit
open Go.Proofs.Ytaiimjbdhcjobaa.Num Go.Proofs.Ytaiimjbdhcjobaa.IntRow Go.Proofs.Ytaiimjbdhcjobaa.Row Go.Proofs.Ytaiimjbdhcjobaa.Cur Go.Proofs.Ytaiimjbdhcjobaa.Draw Go.Proofs.Ytaiimjbdhcjobaa.Pick Go.Proofs.Ytaiimjbdhcjobaa.Rdr Go.Proofs.Ytaiimjbdhcjobaa.HasL Go.Proofs.Ytaiimjbdhcjobaa.Rats Go.Proofs.Ytaiimjbdhcjobaa.RatRow Go.Proofs.Ytaiimjbdhcjobaa.DrawRat Go.Proofs.Ytaiimjbdhcjobaa.DrawWts Go.Proofs.Ytaiimjbdhcjobaa.ScI Go.Proofs.Ytaiimjbdhcjobaa.ScS
open Go.Proofs.Ytaiimjbdhcjobaa.DrawBig (below_pos toss Drew Tossed list_cell grown_fresh grown_far cu_set)
set_option linter.unusedVariables false

def AllLe (m : Int) (xs : List Int) : Prop := ∀ j (h : j < xs.length), xs[j] ≤ m
theorem allLe_nil (m : Int) : AllLe m [] := fun j hj => by simp at hj
theorem allLe_app {m x : Int} {xs : List Int} (h : AllLe m xs) (hx : x ≤ m) : AllLe m (xs ++ [x]) := fun j hj => by
  rw [List.length_append, List.length_singleton] at hj
  by_cases e : j < xs.length
  · rw [List.getElem_append_left e]; exact h j e
  · rw [List.getElem_append_right (by omega)]; simp; exact hx
/-- n ints of at most m in a slice of the call's own; the cursor moved. -/
def IntsAt (m : Int) (n : Nat) (c : Nat) (sv : Value) (l : List UInt8) (w : World) (e : Ending) (w' : World) : Prop :=
  ∃ (a : Option Addr) (cap : Nat) (xs : List Int) (s : St), e = .returned (.slice a xs.length cap) ∧ xs.length = n ∧ AllLe m xs ∧ Own w' w.heap.size 3 (.slice a xs.length cap) xs ∧ Cu w' c sv l s ∧ w.grownBy w' (some c)
theorem own_moved {w w' : World} {base c : Nat} {e : TypeId} {v : Value} {xs : List Int} (h : Own w base e v xs) (hg : w.grownBy w' (some c)) (hc : c < base) : Own w' base e v xs :=
  h.grown hg (fun k hk e => by have := (h.lt k hk).1; have := Option.some.inj e; omega)

set_option maxRecDepth 100000 in
theorem draw_sizes (c : Nat) (z : Int) (n : Nat) (hz : z = n) (sv : Value) (l : List UInt8) (s : St) (w : World) (hn : n ≤ 100) (hc : Cu w c sv l s) :
    Calls Try.prog 90 #[.pointer (some ⟨c, 0, none⟩), .int .i64 z] w (IntsAt 16 n c sv l w) := by
  subst hz
  obtain ⟨i0, hi0, hz0, hz1, hz2⟩ := info_parts IntLaw.info
  have hcw := hc.lt
  have C0 := hid (hc.below (B := w.heap.size) ((Below.refl _ _).alloc (Nat.le_refl _) (.cells #[] 3)) hcw)
  have G0 := hid (World.grownBy_alloc w (.cells #[] 3) (some c))
  have O0 := hid (lit_int w w.heap.size 3 (Nat.le_refl _))
  clear hc
  go_enter Try.func90, Try.ntmps90
  go_wp2
  go_loopw [5] (fun v wr => ∃ (a : Option Addr) (cap : Nat) (xs : List Int) (s : St), v = .slice a xs.length cap ∧ xs.length ≤ n ∧ Hid (AllLe 16 xs) ∧ Hid (Own wr w.heap.size 3 (.slice a xs.length cap) xs) ∧ Hid (Cu wr c sv l s) ∧ Hid (w.grownBy wr (some c))) (fun v _ => n - (match v with | .slice _ k _ => k | _ => 0))
  case atStart => exact ⟨_, 0, [], s, rfl, Nat.zero_le _, hid (allLe_nil _), O0, C0, G0⟩
  case round =>
    obtain ⟨a, cap, xs, s1, rfl, hxn, hall, ho, hc, hg⟩ := hrel
    clear C0 G0 O0
    have hsz := hg.out.size
    by_cases hlt : xs.length < n
    · have hlt' : (xs.length : Int) < (n : Int) := by omega
      go_wp2_with fail
      refine (pick_list c sv l s1 _ hc.out 7 [0, 1, 2, 3, 5, 9, 16] 16 rfl (by omega) (by omega) (by omega) (by decide) _ (by rfl)).mono ?_
      rintro e w2 ⟨x2, s3, rfl, hx2, C2, g2⟩
      have G2 := hid (Cur.grown_trans (Cur.grown_trans hg.out (World.grownBy_alloc wr (.cells #[.int .i64 0, .int .i64 1, .int .i64 2, .int .i64 3, .int .i64 5, .int .i64 9, .int .i64 16] 3) (some c))) g2)
      have O2 := hid (own_moved (ho.out.alloc (.cells #[.int .i64 0, .int .i64 1, .int .i64 2, .int .i64 3, .int .i64 5, .int .i64 9, .int .i64 16] 3)) g2 hcw)
      have C2h := hid C2
      have hsz2 := G2.out.size
      have HA := hid (allLe_app hall.out (show x2 ≤ 16 by omega))
      clear hg ho hc C2 g2 hall
      go_wp2_with (at_builtin; refine append_int rfl _ _ 42 rfl w.heap.size 3 i0 Try.underlying42 hi0 hz0 hz1 hz2 w2 w2 _ xs x2 O2.out (by rfl) (Below.refl _ _) hsz2 _ rfl (by rfl) (by omega) ?_)
      intro v1 w5 hown1 hbel1 hsz5 _
      obtain ⟨a5, cap5, hv5, _, _, _⟩ := hown1.form
      have hl5 : (xs ++ [x2]).length = xs.length + 1 := by simp
      rw [hl5] at hv5
      subst hv5
      have HO := hid hown1
      have HG := hid (grown_low G2.out hbel1)
      have HC := hid (C2h.out.below hbel1 hcw)
      have HL := hid hl5
      clear hown1 hbel1 G2 O2 C2h hl5
      go_wp2
      go_roundw
      case rel => exact ⟨a5, cap5, xs ++ [x2], s3, by rw [HL.out], by rw [HL.out]; omega, HA, by rw [HL.out]; exact HO, HC, HG⟩
      case measure => simp; omega
    · have hlt' : ¬ (xs.length : Int) < (n : Int) := by omega
      go_wp2
      go_ret
      exact ⟨a, cap, xs, s1, rfl, by omega, hall.out, ho.out, hc.out, hg.out⟩

theorem draw_wts' (c : Nat) (z : Int) (n : Nat) (hz : z = n) (sv : Value) (l : List UInt8) (s : St) (w : World) (hn : n ≤ 6) (hc : Cu w c sv l s) :
    Calls Try.prog 91 #[.pointer (some ⟨c, 0, none⟩), .int .i64 z] w (WtsAt c sv l w) := by
  subst hz
  exact draw_wts c n sv l s w hn hc

/-- Sizes, weights and a number of rows. -/
def AgmAt (w : World) (e : Ending) (w' : World) : Prop :=
  ∃ (a0 : Option Addr) (cap0 : Nat) (xs : List Int) (a1 : Option Addr) (cap1 : Nat) (ys : List RatD) (n : Int), e = .returned (.tuple #[.slice a0 xs.length cap0, .slice a1 ys.length cap1, .int .i64 n]) ∧ xs.length ≤ 6 ∧ AllLe 16 xs ∧ ys.length ≤ 6 ∧ Rd w' w'.heap.size a0 xs ∧ Els 2 rRat w' 0 w'.heap.size a1 ys ∧ (-4000 ≤ n ∧ n ≤ 4000) ∧ Below w.heap.size w w'
theorem draw_agm (w : World) (sv : Value) (l : List UInt8) (hl : l.length ≤ 1048576) (hc : Cur.Code w w.heap.size sv l) :
    Calls Try.prog 30 #[sv] w (AgmAt w) := by
  have HN := hid (new_any w sv l hl hc)
  clear hc
  go_enter Try.func30, Try.ntmps30
  go_wp2_with fail
  refine HN.out.mono ?_
  rintro e w1 ⟨c, rfl, hcw, hc1, hb1⟩
  have HB := hid hb1
  have hsz := hb1.size
  generalize ((0 : Nat), numH l (min 4000 l.length)) = s0 at hc1
  have HC := hid hc1
  clear hb1 hc1
  go_wp2_with fail
  refine (below_pos c 4 sv l s0 _ HC.out (by omega) (by omega)).mono ?_
  rintro e w2 ⟨n, s1, rfl, hn, C1, g1⟩
  have HB2 := hid (HB.out.trans (grown_below g1 hsz hcw))
  have hc2 : c < w2.heap.size := C1.lt
  have C1h := hid C1
  have hsz2 := HB2.out.size
  clear C1 g1 HC HB
  go_wp2_with fail
  refine (draw_sizes c _ (n + 1) (by omega) sv l s1 _ (by omega) C1h.out).mono ?_
  rintro e w3 ⟨a0, cap0, xs, s2, rfl, hx, hxa, ho, C2, g2⟩
  have HB3 := hid (HB2.out.trans (grown_below g2 hsz2 hcw))
  have hsz3 := HB3.out.size
  have OX := hid ho
  have C2h := hid C2
  have HX := hid hx
  have HXA := hid hxa
  have hgs2 := g2.size
  clear ho C2 g2 HB2 C1h hx hxa
  go_wp2_with fail
  refine (draw_wts' c _ (n + 1) (by omega) sv l s2 _ (by omega) C2h.out).mono ?_
  rintro e w4 ⟨a1, cap1, ys, s3, rfl, hy, hel, C3, g3⟩
  have OX3 := hid (own_moved OX.out g3 hc2)
  have HB4 := hid (HB3.out.trans (grown_below g3 hsz3 hcw))
  have hsz4 := HB4.out.size
  have HE := hid hel
  have hc3 : c < w3.heap.size := by omega
  have C3h := hid C3
  have hgs3 := g3.size
  clear hel C3 g3 HB3 OX C2h
  go_wp2_with fail
  refine (below_pos c 30 sv l s3 _ C3h.out (by omega) (by omega)).mono ?_
  rintro e w5 ⟨m, s4, rfl, hm, C4, g4⟩
  have OX4 := hid (own_moved OX3.out g4 hc2)
  have HE4 := hid (HE.out.keep good_rat (fun b h1 h2 => (g4.block b (by omega) (fun e => by have := Option.some.inj e; omega))))
  have HB5 := hid (HB4.out.trans (grown_below g4 hsz4 hcw))
  have C4h := hid C4
  have hs5 := g4.size
  clear C4 g4 HB4 C3h OX3 HE
  go_wp2_with fail
  refine (pick_list c sv l s4 _ C4h.out 8 [0, 1, 5, 20, 81, 4000, -1, (m : Int)] 4000 rfl (by omega) (by omega) (by omega) (by intro z hz; simp at hz; omega) _ (by rfl)).mono ?_
  rintro e w6 ⟨x2, s5, rfl, hx2, C5, g5⟩
  have hsz5 := HB5.out.size
  have OX5 := hid (own_moved (OX4.out.alloc (.cells #[.int .i64 0, .int .i64 1, .int .i64 5, .int .i64 20, .int .i64 81, .int .i64 4000, .int .i64 (-1), .int .i64 (m : Nat)] 3)) g5 hc2)
  have hs45 : w4.heap.size ≤ w5.heap.size := hs5
  have HE5 := hid ((HE4.out.keep good_rat (sm_below ((Below.refl _ _).alloc (Nat.le_refl _) (.cells #[.int .i64 0, .int .i64 1, .int .i64 5, .int .i64 20, .int .i64 81, .int .i64 4000, .int .i64 (-1), .int .i64 (m : Nat)] 3)) hs45)).keep good_rat (fun b h1 h2 => (g5.block b (by simp only [World.size_alloc]; omega) (fun e => by have := Option.some.inj e; omega))))
  have HB6 := hid ((HB5.out.alloc hsz5 (.cells #[.int .i64 0, .int .i64 1, .int .i64 5, .int .i64 20, .int .i64 81, .int .i64 4000, .int .i64 (-1), .int .i64 (m : Nat)] 3)).trans (grown_below g5 (by simp only [World.size_alloc]; omega) hcw))
  have hs6 := g5.size
  simp only [World.size_alloc] at hs6
  clear C5 g5 HB5 C4h OX4 HE4
  go_wp2
  refine bodyPost_ret (v := .tuple #[.slice a0 xs.length cap0, .slice a1 ys.length cap1, .int .i64 x2]) (by simp [results, Try.results30, go_sem]) rfl ?_
  exact ⟨a0, cap0, xs, a1, cap1, ys, x2, rfl, by have := HX.out; omega, HXA.out, hy, own_rd OX5.out, HE5.out.up good_rat (Nat.zero_le _) (by omega), by omega, HB6.out⟩

/-- Sizes and two lists of weights. -/
def CmpAt (w : World) (e : Ending) (w' : World) : Prop :=
  ∃ (a0 : Option Addr) (cap0 : Nat) (xs : List Int) (a1 : Option Addr) (cap1 : Nat) (ys : List RatD) (a2 : Option Addr) (cap2 : Nat) (zs : List RatD), e = .returned (.tuple #[.slice a0 xs.length cap0, .slice a1 ys.length cap1, .slice a2 zs.length cap2]) ∧ xs.length ≤ 6 ∧ AllLe 16 xs ∧ ys.length ≤ 6 ∧ zs.length ≤ 6 ∧ Rd w' w'.heap.size a0 xs ∧ Els 2 rRat w' 0 w'.heap.size a1 ys ∧ Els 2 rRat w' 0 w'.heap.size a2 zs ∧ Below w.heap.size w w'
theorem draw_cmp (w : World) (sv : Value) (l : List UInt8) (hl : l.length ≤ 1048576) (hc : Cur.Code w w.heap.size sv l) :
    Calls Try.prog 32 #[sv] w (CmpAt w) := by
  have HN := hid (new_any w sv l hl hc)
  clear hc
  go_enter Try.func32, Try.ntmps32
  go_wp2_with fail
  refine HN.out.mono ?_
  rintro e w1 ⟨c, rfl, hcw, hc1, hb1⟩
  have HB := hid hb1
  have hsz := hb1.size
  generalize ((0 : Nat), numH l (min 4000 l.length)) = s0 at hc1
  have HC := hid hc1
  clear hb1 hc1
  go_wp2_with fail
  refine (below_pos c 4 sv l s0 _ HC.out (by omega) (by omega)).mono ?_
  rintro e w2 ⟨n, s1, rfl, hn, C1, g1⟩
  have HB2 := hid (HB.out.trans (grown_below g1 hsz hcw))
  have hc2 : c < w2.heap.size := C1.lt
  have C1h := hid C1
  have hsz2 := HB2.out.size
  clear C1 g1 HC HB
  go_wp2_with fail
  refine (draw_sizes c _ (n + 1) (by omega) sv l s1 _ (by omega) C1h.out).mono ?_
  rintro e w3 ⟨a0, cap0, xs, s2, rfl, hx, hxa, ho, C2, g2⟩
  have HB3 := hid (HB2.out.trans (grown_below g2 hsz2 hcw))
  have hsz3 := HB3.out.size
  have OX := hid ho
  have C2h := hid C2
  have HX := hid hx
  have HXA := hid hxa
  have hgs2 := g2.size
  clear ho C2 g2 HB2 C1h hx hxa
  go_wp2_with fail
  refine (draw_wts' c _ (n + 1) (by omega) sv l s2 _ (by omega) C2h.out).mono ?_
  rintro e w4 ⟨a1, cap1, ys, s3, rfl, hy, hel, C3, g3⟩
  have OX3 := hid (own_moved OX.out g3 hc2)
  have HB4 := hid (HB3.out.trans (grown_below g3 hsz3 hcw))
  have hsz4 := HB4.out.size
  have HE := hid hel
  have hc3 : c < w3.heap.size := by omega
  have C3h := hid C3
  have hgs3 := g3.size
  clear hel C3 g3 HB3 OX C2h
  go_wp2_with fail
  refine (draw_wts' c _ (n + 1) (by omega) sv l s3 _ (by omega) C3h.out).mono ?_
  rintro e w5 ⟨a2, cap2, zs, s4, rfl, hz, hel, C4, g4⟩
  have OX4 := hid (own_moved OX3.out g4 hc2)
  have HE4 := hid (HE.out.keep good_rat (fun b h1 h2 => (g4.block b (by omega) (fun e => by have := Option.some.inj e; omega))))
  have HZ := hid (hel.up good_rat (Nat.zero_le _) (Nat.le_refl _))
  have HB5 := hid (HB4.out.trans (grown_below g4 hsz4 hcw))
  have hs5 := g4.size
  clear C4 g4 HB4 C3h OX3 HE hel
  go_wp2
  refine bodyPost_ret (v := .tuple #[.slice a0 xs.length cap0, .slice a1 ys.length cap1, .slice a2 zs.length cap2]) (by simp [results, Try.results32, go_sem]) rfl ?_
  exact ⟨a0, cap0, xs, a1, cap1, ys, a2, cap2, zs, rfl, by have := HX.out; omega, HXA.out, hy, hz, own_rd OX4.out, HE4.out.up good_rat (Nat.zero_le _) (by omega), HZ.out, HB5.out⟩

/-- Sizes and exponents. -/
def PrdAt (w : World) (e : Ending) (w' : World) : Prop :=
  ∃ (a0 : Option Addr) (cap0 : Nat) (xs : List Int) (a1 : Option Addr) (cap1 : Nat) (ys : List Int), e = .returned (.tuple #[.slice a0 xs.length cap0, .slice a1 ys.length cap1]) ∧ xs.length ≤ 6 ∧ AllLe 16 xs ∧ ys.length ≤ 6 ∧ Rd w' w'.heap.size a0 xs ∧ Rd w' w'.heap.size a1 ys ∧ Below w.heap.size w w'
set_option maxRecDepth 100000 in
theorem draw_prd (w : World) (sv : Value) (l : List UInt8) (hl : l.length ≤ 1048576) (hc : Cur.Code w w.heap.size sv l) :
    Calls Try.prog 35 #[sv] w (PrdAt w) := by
  obtain ⟨i0, hi0, hz0, hz1, hz2⟩ := info_parts IntLaw.info
  have HN := hid (new_any w sv l hl hc)
  clear hc
  go_enter Try.func35, Try.ntmps35
  go_wp2_with fail
  refine HN.out.mono ?_
  rintro e w1 ⟨c, rfl, hcw, hc1, hb1⟩
  have HB := hid hb1
  have hsz := hb1.size
  generalize ((0 : Nat), numH l (min 4000 l.length)) = s0 at hc1
  have HC := hid hc1
  clear hb1 hc1
  go_wp2_with fail
  refine (below_pos c 5 sv l s0 _ HC.out (by omega) (by omega)).mono ?_
  rintro e w2 ⟨n, s1, rfl, hn, C1, g1⟩
  have HB2 := hid (HB.out.trans (grown_below g1 hsz hcw))
  have hc2 : c < w2.heap.size := C1.lt
  have hsz2 := HB2.out.size
  have C0 := hid (C1.below (B := w2.heap.size) ((Below.refl _ _).alloc (Nat.le_refl _) (.cells #[] 3)) hc2)
  have G0 := hid (World.grownBy_alloc w2 (.cells #[] 3) (some c))
  have O0 := hid (lit_int w2 w2.heap.size 3 (Nat.le_refl _))
  clear C1 g1 HC HB
  go_wp2
  go_loopw [6] (fun v wr => ∃ (a : Option Addr) (cap : Nat) (xs : List Int) (s : St), v = .slice a xs.length cap ∧ xs.length ≤ n ∧ Hid (Own wr w2.heap.size 3 (.slice a xs.length cap) xs) ∧ Hid (Cu wr c sv l s) ∧ Hid (w2.grownBy wr (some c))) (fun v _ => n - (match v with | .slice _ k _ => k | _ => 0))
  case atStart => exact ⟨_, 0, [], s1, rfl, Nat.zero_le _, O0, C0, G0⟩
  case round =>
    obtain ⟨a, cap, xs, s1, rfl, hxn, ho, hc, hg⟩ := hrel
    clear C0 G0 O0
    have hsz := hg.out.size
    by_cases hlt : xs.length < n
    · have hlt' : (xs.length : Int) < (n : Int) := by omega
      go_wp2_with fail
      refine (pick_list c sv l s1 _ hc.out 6 [0, 1, 2, 3, 12, -1] 16 rfl (by omega) (by omega) (by omega) (by decide) _ (by rfl)).mono ?_
      rintro e w3 ⟨x2, s3, rfl, hx2, C2, g2⟩
      have G2 := hid (Cur.grown_trans (Cur.grown_trans hg.out (World.grownBy_alloc wr (.cells #[.int .i64 0, .int .i64 1, .int .i64 2, .int .i64 3, .int .i64 12, .int .i64 (-1)] 3) (some c))) g2)
      have O2 := hid (own_moved (ho.out.alloc (.cells #[.int .i64 0, .int .i64 1, .int .i64 2, .int .i64 3, .int .i64 12, .int .i64 (-1)] 3)) g2 hc2)
      have C2h := hid C2
      have hsz2 := G2.out.size
      clear hg ho hc C2 g2
      go_wp2_with (at_builtin; refine append_int rfl _ _ 42 rfl w2.heap.size 3 i0 Try.underlying42 hi0 hz0 hz1 hz2 w3 w3 _ xs x2 O2.out (by rfl) (Below.refl _ _) hsz2 _ rfl (by rfl) (by omega) ?_)
      intro v1 w5 hown1 hbel1 hsz5 _
      obtain ⟨a5, cap5, hv5, _, _, _⟩ := hown1.form
      have hl5 : (xs ++ [x2]).length = xs.length + 1 := by simp
      rw [hl5] at hv5
      subst hv5
      have HO := hid hown1
      have HG := hid (grown_low G2.out hbel1)
      have HC := hid (C2h.out.below hbel1 hc2)
      have HL := hid hl5
      clear hown1 hbel1 G2 O2 C2h hl5
      go_wp2
      go_roundw
      case rel => exact ⟨a5, cap5, xs ++ [x2], s3, by rw [HL.out], by rw [HL.out]; omega, by rw [HL.out]; exact HO, HC, HG⟩
      case measure => simp; omega
    · have hlt' : ¬ (xs.length : Int) < (n : Int) := by omega
      go_wp2_with fail
      refine (below_pos c 12 sv l s1 _ hc.out (by omega) (by omega)).mono ?_
      rintro e w3 ⟨m, s2, rfl, hm, C2, g2⟩
      have G2 := hid (Cur.grown_trans hg.out g2)
      have O2 := hid (own_moved ho.out g2 hc2)
      have C2h := hid C2
      have hgs := g2.size
      clear hg ho hc C2 g2
      have hq : 0 ≤ (m : Int) / 11 ∧ (m : Int) / 11 ≤ 2 := by omega
      go_wp2_with fail
      refine (draw_sizes c _ (n + m / 11) (by omega) sv l s2 _ (by omega) C2h.out).mono ?_
      rintro e w4 ⟨a0, cap0, ys, s3, rfl, hy, hya, hoy, C3, g3⟩
      have O3 := hid (own_moved O2.out g3 hc2)
      have OY := hid hoy
      have HY := hid hy
      have HYA := hid hya
      have G3 := hid (Cur.grown_trans G2.out g3)
      clear hoy C3 g3 O2 C2h G2 hy hya
      have HB4 := hid (HB2.out.trans (grown_below G3.out hsz2 hcw))
      go_wp2
      go_ret2
      exact ⟨a0, cap0, ys, a, cap, xs, rfl, by have := HY.out; omega, HYA.out, by omega, own_rd OY.out, own_rd O3.out, HB4.out⟩
end Go.Proofs.Ytaiimjbdhcjobaa.DrawAgm
