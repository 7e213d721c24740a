/- The draws of chapter 13 (spec.l13Small, l13Rows, DrawTranspose, DrawDotProduct): some rationals, some matrices of the call's own. -/
import Derived.Test.YthghggnlfnbbgaaDrawRat
import Derived.Test.YthghggnlfnbbgaaGridQ2
import Derived.Test.YthghggnlfnbbgaaRatsSS
namespace Go.Proofs.Ythghggnlfnbbgaa.Draw13
open Go.RowKit
open Go.Proofs.Ythghggnlfnbbgaa.Num Go.Proofs.Ythghggnlfnbbgaa.Row Go.Proofs.Ythghggnlfnbbgaa.Cur Go.Proofs.Ythghggnlfnbbgaa.Draw Go.Proofs.Ythghggnlfnbbgaa.Pick Go.Proofs.Ythghggnlfnbbgaa.Rat Go.Proofs.Ythghggnlfnbbgaa.New Go.Proofs.Ythghggnlfnbbgaa.RatLaw Go.Proofs.Ythghggnlfnbbgaa.Cells Go.Proofs.Ythghggnlfnbbgaa.Rdr Go.Proofs.Ythghggnlfnbbgaa.HasL Go.Proofs.Ythghggnlfnbbgaa.Rats Go.Proofs.Ythghggnlfnbbgaa.RatRow Go.Proofs.Ythghggnlfnbbgaa.RatOwn Go.Proofs.Ythghggnlfnbbgaa.GridQ Go.Proofs.Ythghggnlfnbbgaa.GridQ2 Go.Proofs.Ythghggnlfnbbgaa.RatsSS Go.Proofs.Ythghggnlfnbbgaa.DrawRat
open Go.Proofs.Ythghggnlfnbbgaa.DrawBig (below_pos toss Drew Tossed list_cell grown_fresh grown_far grown_dr cu_set cu_grown)
open Go.Proofs.Ythghggnlfnbbgaa.GridMore (Under)
set_option linter.unusedVariables false

def SmallAt (c : Nat) (sv : Value) (l : List UInt8) (w : World) (e : Ending) (w' : World) : Prop :=
  ∃ (x y : Int) (s : St), e = .returned (.agg #[.int .i64 x, .int .i64 y]) ∧ (Ib x ∧ Ib y) ∧ Cu w' c sv l s ∧ w.grownBy w' (some c)
set_option maxHeartbeats 1000000 in
theorem small (c : Nat) (sv : Value) (l : List UInt8) (s : St) (w : World) (hc : Cu w c sv l s) :
    Calls Try.prog 77 #[.pointer (some ⟨c, 0, none⟩)] w (SmallAt c sv l w) := by
  have hcw := hc.lt
  have K := hid (has2_new w (.int .i64 0) (.int .i64 0) 25)
  have C := hid (hc.below (B := w.heap.size) ((Below.refl _ _).alloc (Nat.le_refl _) (.cells #[.int .i64 0, .int .i64 0] 25)) hcw)
  have G := hid (World.grownBy_alloc w (.cells #[.int .i64 0, .int .i64 0] 25) (some c))
  clear hc
  go_enter Try.func77, Try.ntmps77
  go_wp2_with fail
  refine (below_pos c 7 sv l s _ C.out (by omega) (by omega)).mono ?_
  rintro e w1 ⟨x1, s1, rfl, hx1, C1, g1⟩
  replace K := hid (has2_grown K.out g1 (fun e => by have e2 := Option.some.inj e; omega))
  replace G := hid (Cur.grown_trans G.out g1)
  replace C := hid C1
  clear C1 g1
  go_wp2_with fail
  refine (pick_list c sv l s1 _ C.out 5 [1, 1, 1, 2, 3] 3 rfl (by omega) (by omega) (by omega) (by decide) _ (by rfl)).mono ?_
  rintro e w2 ⟨x2, s2, rfl, hx2, C1, g1⟩
  replace K := hid (has2_grown (K.out.alloc (.cells #[.int .i64 1, .int .i64 1, .int .i64 1, .int .i64 2, .int .i64 3] 3)) g1 (fun e => by have e2 := Option.some.inj e; omega))
  replace G := hid (Cur.grown_trans (Cur.grown_trans G.out (World.grownBy_alloc w1 (.cells #[.int .i64 1, .int .i64 1, .int .i64 1, .int .i64 2, .int .i64 3] 3) (some c))) g1)
  replace C := hid C1
  clear C1 g1
  have N := hid fun W => spec_new ((x1 : Int) - 3) x2 W (by omega) (by omega) (by omega) (by omega)
  have hbd := rx_bd ((x1 : Int) - 3) x2
  simp only [ratEnd_is] at N
  generalize rx (nok ((x1 : Int) - 3) x2) (nx ((x1 : Int) - 3) x2) = X at N hbd
  generalize rx (nok ((x1 : Int) - 3) x2) (ny ((x1 : Int) - 3) x2) = Y at N hbd
  generalize nok ((x1 : Int) - 3) x2 = ok at N
  go_wp2_with fail
  refine (N.out _).mono ?_
  rintro e w3 ⟨rfl, hb⟩
  replace K := hid (K.out.below hb)
  replace G := hid (grown_bel G.out hb)
  replace C := hid (cu_below C.out hb)
  clear hb N
  have hcw3 := C.out.lt
  have O := hid (has2_new w3 (.int .i64 X) (.int .i64 Y) 25)
  replace K := hid (K.out.alloc (.cells #[.int .i64 X, .int .i64 Y] 25))
  replace G := hid (Cur.grown_trans G.out (World.grownBy_alloc w3 (.cells #[.int .i64 X, .int .i64 Y] 25) (some c)))
  replace C := hid (C.out.below (B := w3.heap.size) ((Below.refl _ _).alloc (Nat.le_refl _) (.cells #[.int .i64 X, .int .i64 Y] 25)) hcw3)
  have KS := hid (K.out.set (u := .int .i64 X) (v := .int .i64 Y))
  have CS := hid (cu_set (i := 1) (cu_set (i := 0) C.out hcw (.int .i64 X)) hcw (.int .i64 Y))
  have GS := hid (grown_far (b := w.heap.size) (i := 1) (grown_far (b := w.heap.size) (i := 0) G.out (Nat.le_refl _) (.int .i64 X)) (Nat.le_refl _) (.int .i64 Y))
  obtain ⟨o0, o1, o2, o3, o4⟩ := O.out
  obtain ⟨k0, k1, k2, k3, k4⟩ := K.out
  clear O K C G
  go_wp2_with fail
  exact bodyPost_ret (v := .agg #[.int .i64 X, .int .i64 Y]) (by simp [results, Try.results77, go_sem, KS.out.1, KS.out.2]) rfl ⟨X, Y, s2, rfl, ⟨⟨by omega, by omega⟩, ⟨by omega, by omega⟩⟩, CS.out, GS.out⟩

theorem grown_low {w a b : World} {row : Option Nat} (h : w.grownBy a row) (g : Below w.heap.size a b) : w.grownBy b row :=
  ⟨g.os.trans h.os, g.tape.trans h.tape, g.output.trans h.output, Nat.le_trans h.size g.size, fun k hk hne => (g.block k hk).trans (h.block k hk hne)⟩
theorem OwnR.moved {w w' : World} {base c : Nat} {e : TypeId} {v : Value} {xs : List RatD} (h : OwnR w base e v xs) (hg : w.grownBy w' (some c)) (hc : c < base) : OwnR w' base e v xs :=
  World.ownsRow.kept h hg (.inr (fun e => by have := (h.lt c e).1; omega))
/-- Some matrix of the call's own, n rows of up to m + 1; the cursor moved. -/
def RowsAt (n m c : Nat) (sv : Value) (l : List UInt8) (w : World) (e : Ending) (w' : World) : Prop :=
  ∃ (a : Option Addr) (cap : Nat) (vs : List Value) (xss : MatD) (s : St), e = .returned (.slice a n cap) ∧ xss.length = n ∧ (∀ j (hj : j < xss.length), xss[j].length ≤ m + 1) ∧ GOwnQ w' w.heap.size tQ tR (.slice a n cap) vs xss ∧ Cu w' c sv l s ∧ w.grownBy w' (some c)

/-- All rows but the last lie below block H, the last one from there on. -/
def Lasts (vs : List Value) (k H : Nat) : Prop := (∀ (i : Nat) (u : Value), i + 1 < k → vs[i]? = some u → ∀ q, u.ownBlock = some q → q < H) ∧ (∀ u, vs[k - 1]? = some u → ∀ q, u.ownBlock = some q → H ≤ q)

set_option maxRecDepth 100000 in
set_option maxHeartbeats 2000000 in
theorem draw_rows (c n m : Nat) (sv : Value) (l : List UInt8) (s : St) (w : World) (hn : n ≤ 8) (hm : m ≤ 8) (hc : Cu w c sv l s) :
    Calls Try.prog 64 #[.pointer (some ⟨c, 0, none⟩), .int .i64 n, .int .i64 m] w (RowsAt n m c sv l w) := by
  obtain ⟨i0, hi0, hz0, hz1, hz2⟩ := info_parts infoRow
  obtain ⟨i1, hi1, hy0, hy1, hy2⟩ := info_parts infoRat
  have hcw := hc.lt
  have C0 := hid (hc.below (B := w.heap.size) ((Below.refl _ _).alloc (Nat.le_refl _) (.cells #[] tQ)) hcw)
  have G0 := hid (World.grownBy_alloc w (.cells #[] tQ) (some c))
  have O0 := hid (show GOwnQ (w.alloc (.cells #[] tQ)) w.heap.size tQ tR (.slice (some ⟨w.heap.size, 0, none⟩) 0 0) [] [] from ⟨rfl, World.ownsRow_made w #[] 0 (Nat.le_refl _) (by decide) (by decide), fun j h => by simp at h, fun i j u u' k _ h => by simp at h⟩)
  clear hc
  go_enter Try.func64, Try.ntmps64
  go_wp2_with fail
  go_loopw [7, 8] (fun v _ wr => ∃ (a : Option Addr) (cap : Nat) (vs : List Value) (xss : MatD) (s : St) (k H : Nat), v = .slice a k cap ∧ k ≤ n ∧ w.heap.size ≤ H ∧ H ≤ wr.heap.size ∧ Hid (Lasts vs k H) ∧ Hid (xss.length = k) ∧ Hid (∀ j (hj : j < xss.length), xss[j].length = m) ∧ Hid (GOwnQ wr w.heap.size tQ tR (.slice a k cap) vs xss) ∧ Hid (Cu wr c sv l s) ∧ Hid (w.grownBy wr (some c))) (fun v _ _ => n - (match v with | .slice _ k _ => k | _ => 0))
  case atStart => exact ⟨_, 0, [], [], s, 0, w.heap.size, rfl, Nat.zero_le _, Nat.le_refl _, by simp, hid ⟨fun i u hi hu => by simp at hu, fun u hu => by simp at hu⟩, hid rfl, hid (fun j hj => by simp at hj), O0, C0, G0⟩
  case round =>
    obtain ⟨a, cap, vs, xss, s1, k, H, rfl, hkn, hH0, hH1, hlast, hxl, hrows, ho, hc, hg⟩ := hrel
    clear C0 G0 O0
    have hsz := hg.out.size
    by_cases hlt : k < n
    · have hlt' : (k : Int) < (n : Int) := by omega
      have hcr := hc.out.lt
      have R0 := hid (show OwnR (wr.alloc (.cells #[] 25)) wr.heap.size 25 (.slice (some ⟨wr.heap.size, 0, none⟩) 0 0) [] from ownR_lit wr wr.heap.size 25 (Nat.le_refl _))
      have RC := hid (cu_below hc.out ((Below.refl _ _).alloc (Nat.le_refl _) (.cells #[] 25)))
      have RG := hid (World.grownBy_alloc wr (.cells #[] 25) (some c))
      go_wp2_with fail
      obtain ⟨w5, rfl⟩ : ∃ wo : World, wo = wr := ⟨_, rfl⟩
      go_loopw [8] (fun v wr => ∃ (a : Option Addr) (cap : Nat) (xs : List RatD) (s : St) (q : Nat), v = .slice a q cap ∧ q ≤ m ∧ Hid (xs.length = q) ∧ Hid (IbA xs) ∧ Hid (OwnR wr w5.heap.size 25 (.slice a q cap) xs) ∧ Hid (Cu wr c sv l s) ∧ Hid (w5.grownBy wr (some c))) (fun v _ => m - (match v with | .slice _ k _ => k | _ => 0))
      case atStart => exact ⟨_, 0, [], s1, 0, rfl, Nat.zero_le _, hid rfl, hid iba_nil, R0, RC, RG⟩
      case round =>
        obtain ⟨a2, cap2, xs, s2, q, rfl, hqm, hql, hib, hr, hc2, hg2⟩ := hrel
        clear R0 RC RG
        have hsz2 := hg2.out.size
        by_cases hqlt : q < m
        · have hqlt' : (q : Int) < (m : Int) := by omega
          go_wp2_with fail
          refine (small c sv l s2 _ hc2.out).mono ?_
          rintro e w6 ⟨X, Y, s3, rfl, hbd, C1, g1⟩
          have hs6 := g1.size
          have G6 := hid (Cur.grown_trans hg2.out g1)
          have O4 := hid (OwnR.moved hr.out g1 hcr)
          have C6 := hid C1
          have HA := hid (iba_snoc (p := (X, Y)) hib.out hbd)
          have hl5 : (xs ++ [(X, Y)]).length = q + 1 := by rw [List.length_append, hql.out]; rfl
          have HL := hid hl5
          have hxq : xs.length ≤ 4398046511104 := by rw [hql.out]; omega
          have hb6 : w5.heap.size ≤ w6.heap.size := by omega
          clear hr hc2 hg2 C1 g1 hib hl5 hql
          go_wp2_with (at_builtin; refine append_rat rfl _ _ 28 rfl w5.heap.size 25 i1 Try.underlying28 hi1 hy0 hy1 hy2 w6 _ xs (X, Y) O4.out (by rfl) hb6 (by rfl) hxq ?_)
          intro v1 w7 hown1 hbel1 hsz7
          obtain ⟨a5, cap5, hv5, _⟩ := hown1.els HA.out
          rw [HL.out] at hv5
          subst hv5
          have HO := hid hown1
          have HG := hid (grown_low G6.out hbel1)
          have HC := hid (C6.out.below hbel1 hcr)
          clear hown1 hbel1 G6 O4 C6
          go_wp2_with fail
          go_roundw
          case rel => exact ⟨a5, cap5, xs ++ [(X, Y)], s3, q + 1, by rfl, by omega, HL, HA, HO, HC, HG⟩
          case measure => simp; omega
        · have hqlt' : ¬ (q : Int) < (m : Int) := by omega
          have hqm2 : q = m := by omega
          subst hqm2
          have GO := hid (ho.out.moved hg2.out hcw)
          have HU := hid (show OwnQ wr w5.heap.size tR (.slice a2 q cap2) xs from ⟨hr.out, hib.out⟩)
          have hfar : Hid (∀ u' ∈ vs, Far (.slice a2 q cap2) u') := hid (fun u' hu' p hp hp' => by
            obtain ⟨i, hi⟩ := List.getElem?_of_mem hu'
            have h1 := (ho.out.lt_row hi p hp').2
            have h2 := (HU.out.lt p hp).1
            omega)
          have hxk : xss.length ≤ 1048576 := by rw [hxl.out]; omega
          have hloW : w.heap.size ≤ wr.heap.size := by omega
          have hG9 := hid (Cur.grown_trans hg.out hg2.out)
          have hvl := hid (show vs.length = k by rw [ho.out.len]; exact hxl.out)
          clear hxl hql
          go_wp2_with (at_builtin; refine wpList_headQ rfl _ _ 37 rfl tQ tR tQR i0 Try.underlying37 hi0 hz0 hz1 hz2 wr w.heap.size (.slice a k cap) (.slice a2 q cap2) vs xss xs rfl GO.out (HU.out.mono hsz) hfar.out rfl hxk hloW ?_)
          intro v' w8 hg3 hgr3 hs8
          obtain ⟨a9, cap9, hv9, _⟩ := hg3.form
          have hl9 : (xss ++ [xs]).length = k + 1 := by rw [List.length_append, ← ho.out.len, hvl.out]; rfl
          rw [hl9] at hv9
          subst hv9
          have HG3 := hid hg3
          have HL9 := hid hl9
          have HC := hid (cu_grown hc2.out hgr3 (fun p hp => Nat.lt_of_lt_of_le hcw (GO.out.lt p hp).1))
          have HG := hid (grown_fresh hG9.out hgr3 (fun p hp => (GO.out.lt p hp).1))
          have HR := hid (show ∀ j (hj : j < (xss ++ [xs]).length), (xss ++ [xs])[j].length = q from fun j hj => by
            by_cases e : j < xss.length
            · rw [List.getElem_append_left e]; exact hrows.out j e
            · rw [List.getElem_append_right (by omega)]
              have := (ownq_rd HU.out).1
              simp only [List.getElem_singleton]
              omega)
          have HLS := hid (show Lasts (vs ++ [.slice a2 q cap2]) (k + 1) w5.heap.size from ⟨fun i u hi hu p hp => by
            have hil : i < vs.length := by rw [hvl.out]; omega
            rw [List.getElem?_append_left hil] at hu
            exact (ho.out.lt_row hu p hp).2, fun u hu p hp => by
            have : (k + 1) - 1 = vs.length := by rw [hvl.out]; rfl
            rw [this, List.getElem?_append_right (Nat.le_refl _), Nat.sub_self] at hu
            simp only [List.getElem?_cons_zero, Option.some.injEq] at hu
            subst hu
            exact (HU.out.lt p hp).1⟩)
          clear hg3 hgr3 hl9 GO HU hfar hG9 hr hc2 hg2 ho hc hg hib hrows hlast hvl
          go_wp2_with fail
          go_roundw
          case rel => exact ⟨a9, cap9, _, _, s2, k + 1, w5.heap.size, by rfl, by omega, hsz, by omega, HLS, HL9, HR, HG3, HC, HG⟩
          case measure => simp; omega
    · have hlt' : ¬ (k : Int) < (n : Int) := by omega
      have hkn2 : k = n := by omega
      subst hkn2
      go_wp2_with fail
      refine (below_pos c 18 sv l s1 _ hc.out (by omega) (by omega)).mono ?_
      rintro e w6 ⟨x, s2, rfl, hx, C1, g1⟩
      have hs61 := g1.size
      have G6 := hid (Cur.grown_trans hg.out g1)
      have O6 := hid (ho.out.moved g1 hcw)
      have C6 := hid C1
      clear hc ho hg C1 g1
      have DONE : Hid (∀ (e : Ending) (w' : World) (vs : List Value) (ys : MatD) (s : St), e = .returned (.slice a k cap) → ys.length = k → (∀ j (hj : j < ys.length), ys[j].length ≤ m + 1) → GOwnQ w' w.heap.size tQ tR (.slice a k cap) vs ys → Cu w' c sv l s → w.grownBy w' (some c) → RowsAt k m c sv l w e w') := hid (fun e w' vs ys s h1 h2 h3 h4 h5 h6 => ⟨a, cap, vs, ys, s, h1, h2, h3, h4, h5, h6⟩)
      have hle := hid (fun j (hj : j < xss.length) => show xss[j].length ≤ m + 1 by rw [hrows.out j hj]; omega)
      by_cases hx0 : x = 0
      · subst hx0
        have t0 : (((0 : Nat) : Int) == 0) = true := by simp
        by_cases hnm : 0 < k ∧ 0 < m
        · obtain ⟨hk0, hm0⟩ := hnm
          have hk0' : (0 : Int) < (k : Int) := by omega
          have hm0' : (0 : Int) < (m : Int) := by omega
          have hp0 : 0 < xss.length := by rw [hxl.out]; exact hk0
          have hr0 : 0 < xss[0].length := by rw [hrows.out 0 hp0]; exact hm0
          obtain ⟨g, rfl, hlg⟩ := gownq_at O6.out hp0
          obtain ⟨b0, cap0, hv0, hlb, hle0⟩ := row_block O6.out 0 hp0 hr0
          have c0 := (O6.out.cellAt 0 hp0).trans hv0
          rw [Nat.add_zero, hrows.out 0 hp0] at c0
          rw [hrows.out 0 hp0] at hv0
          have HV0 := hid hv0
          have HC := hid C6.out.drew
          have HQ := hid O6.out.drew
          have HP0 := hid hp0
          have HR0 := hid hr0
          have hcb : c < b0 := by omega
          clear hv0 O6 C6 hle0
          go_wp2
          go_region_law (first
            | (go_simp; go_at_call 78; go_must (refine (draw_any c sv l s2 _ HC.out).mono ?_); rintro e w7 ⟨X, Y, s3, rfl, hbx, hby, C1, g1⟩; have HC3 := hid C1; have HG3 := hid g1; have HQ3 := hid (HQ.out.moved g1 hcw); have d0 := (HQ3.out.cellAt 0 HP0.out).trans HV0.out; rw [Nat.add_zero] at d0; obtain ⟨e0, e1, f0, f1⟩ := row_cells (row_own HQ3.out 0 HP0.out HV0.out) 0 HR0.out; simp only [Nat.zero_mul, Nat.zero_add] at e0 e1 f0 f1; clear C1 g1))
          all_goals
            have S := hid (row_store HQ3.out tQR 0 HP0.out HV0.out 0 HR0.out (X, Y) ⟨⟨by omega, by omega⟩, ⟨by omega, by omega⟩⟩)
            have CS := hid (cu_set (i := 1) (cu_set (i := 0) HC3.out hcb (.int .i64 X)) hcb (.int .i64 Y))
            have GS := hid (grown_far (b := b0) (i := 1) (grown_far (b := b0) (i := 0) (grown_dr G6.out HG3.out) hlb (.int .i64 X)) hlb (.int .i64 Y))
            simp only [Nat.zero_mul, Nat.zero_add] at S
            clear HQ3 HC3 HG3 HC HQ G6
            go_wp2_with fail
            go_ret
            exact DONE.out _ _ _ _ _ rfl (by rw [List.length_set]; exact hxl.out) (fun j hj => by rw [List.length_set] at hj; rw [List.getElem_set]; split <;> (try rw [List.length_set]) <;> exact hle.out _ _) S.out CS.out GS.out
        · by_cases hk0 : 0 < k
          · have hm0 : m = 0 := by omega
            have hk0' : (0 : Int) < (k : Int) := by omega
            have hm0' : ¬ (0 : Int) < (m : Int) := by omega
            clear hnm
            go_wp2_with fail
            go_ret
            exact DONE.out _ _ _ _ _ rfl hxl.out hle.out O6.out C6.out G6.out
          · have hk0' : ¬ (0 : Int) < (k : Int) := by omega
            clear hnm
            go_wp2_with fail
            go_ret
            exact DONE.out _ _ _ _ _ rfl hxl.out hle.out O6.out C6.out G6.out
      · have t0 : ((x : Int) == 0) = false := by simp only [beq_eq_false_iff_ne, ne_eq]; omega
        by_cases hx1 : x = 1
        · subst hx1
          have t1 : (((1 : Nat) : Int) == 1) = true := by simp
          by_cases hk0 : 0 < k
          · have hk0' : (0 : Int) < (k : Int) := by omega
            have hp0 : k - 1 < xss.length := by rw [hxl.out]; omega
            obtain ⟨g, rfl, hlg⟩ := gownq_at O6.out (by omega)
            obtain ⟨aj, capj, hv0, hle0⟩ := row_head O6.out (k - 1) hp0
            have c0 := (O6.out.cellAt (k - 1) hp0).trans hv0
            rw [Nat.zero_add, hrows.out (k - 1) hp0] at c0
            rw [hrows.out (k - 1) hp0] at hv0
            have HV0 := hid hv0
            have HC := hid C6.out.drew
            have HQ := hid O6.out.drew
            have hcg : c < g := by omega
            have hxm : xss[k - 1].length ≤ 4398046511104 := by rw [hrows.out (k - 1) hp0]; omega
            have t9 : (1 : Int) ≤ (k : Int) := by omega
            have hu0 := hid (fun (q : Nat) (hq : (Value.slice aj m capj).ownBlock = some q) => hlast.out.2 _ HV0.out q hq)
            have t5 : IntKind.i64.wrap ((k : Int) - 1) = (k : Int) - 1 := IntWalk.i64_in _ (by omega)
            have t6 : ((k : Int) - 1).toNat = k - 1 := by omega
            have t7 : (0 : Int) ≤ (k : Int) - 1 := by omega
            have t8 : (k : Int) - 1 < (k : Int) := by omega
            have hcw6 := C6.out.lt
            clear hv0 O6 C6 hle0
            go_wp2
            go_region_law (first
              | (refine step_rat rfl _ _ 28 rfl H 25 i1 Try.underlying28 hi1 hy0 hy1 hy2 w7 _ xss[k - 1] (X, Y) HR3.out (by rfl) hz3 (by rfl) hxm ?_; intro v1 w8 hown8 hgr8; obtain ⟨a1, cap1, hve, _⟩ := hown8.els (iba_snoc (p := (X, Y)) (row_own HQ3.out (k - 1) hp0 HV0.out).2 HBD.out); rw [List.length_append, List.length_singleton] at hve; subst hve; have HR8 := hid hown8; have HG8 := hid hgr8; obtain ⟨e0, f0⟩ := head_kept HQ3.out tQR (k - 1) hp0 HV0.out hgr8; clear hown8 hgr8)
              | (go_simp; go_at_call 77; go_must (refine (small c sv l s2 _ HC.out).mono ?_); rintro e w7 ⟨X, Y, s3, rfl, hbd, C1, g1⟩; have HBD := hid hbd; have HC3 := hid C1; have HG3 := hid g1; have HQ3 := hid (HQ.out.moved g1 hcw); have d0 := (HQ3.out.cellAt (k - 1) hp0).trans HV0.out; rw [Nat.zero_add] at d0; have d1 := (World.cell?_alloc_lt w7 (.cells #[.int .i64 X, .int .i64 Y] 25) ⟨g, k - 1, none⟩ (by exact (HQ3.out.lt g rfl).2)).trans d0; have HR3 := hid (ownr_raise (row_own HQ3.out (k - 1) hp0 HV0.out).1 hu0.out); have hz3 : H ≤ w7.heap.size := (by have h2 : w6.heap.size ≤ w7.heap.size := HG3.out.size; omega); clear C1 g1 hbd))
            all_goals
              have hib := hid (iba_snoc (p := (X, Y)) (row_own HQ3.out (k - 1) hp0 HV0.out).2 HBD.out)
              have S := hid (gownq_app HQ3.out hxl.out.symm tQR (k - 1) hp0 HV0.out (u' := .slice a1 (xss[k - 1].length + 1) cap1) (ys := xss[k - 1] ++ [(X, Y)]) ((show OwnQ w8 H tR (.slice a1 (xss[k - 1].length + 1) cap1) (xss[k - 1] ++ [(X, Y)]) from ⟨HR8.out, hib.out⟩).mono hH0) HG8.out (fun i u2 q hik hu2 hq hq2 => by
                have hil : i < vs.length := (List.getElem?_eq_some_iff.1 hu2).1
                have hvl : vs.length = k := by rw [HQ3.out.len]; exact hxl.out
                have h1 := hlast.out.1 i u2 (by omega) hu2 q hq2
                have h2 := (HR8.out.lt q hq).1
                omega))
              have CS := hid (cu_set (i := k - 1) (cu_grown HC3.out HG8.out (fun q hq => by have h1 := hu0.out q hq; omega)) hcg (.slice a1 (xss[k - 1].length + 1) cap1))
              have GS := hid (grown_far (b := g) (i := k - 1) (grown_fresh (grown_dr G6.out HG3.out) HG8.out (fun q hq => by have h1 := hu0.out q hq; omega)) hlg (.slice a1 (xss[k - 1].length + 1) cap1))
              have HLE := hid (fun j (hj : j < (xss.set (k - 1) (xss[k - 1] ++ [(X, Y)])).length) => show (xss.set (k - 1) (xss[k - 1] ++ [(X, Y)]))[j].length ≤ m + 1 by
                have hj' : j < xss.length := by rw [List.length_set] at hj; exact hj
                rw [List.getElem_set]
                split
                · rw [List.length_append, hrows.out (k - 1) hp0]; exact Nat.le_refl _
                · exact hle.out j hj')
              clear HQ3 HC3 HG3 HR3 HR8 HG8 HC HQ G6 hib
              go_wp2_with fail
              go_ret
              exact DONE.out _ _ _ _ _ rfl (by rw [List.length_set]; exact hxl.out) HLE.out S.out CS.out GS.out
          · have hk0' : ¬ (0 : Int) < (k : Int) := by omega
            go_wp2_with fail
            go_ret
            exact DONE.out _ _ _ _ _ rfl hxl.out hle.out O6.out C6.out G6.out
        · have t1 : ((x : Int) == 1) = false := by simp only [beq_eq_false_iff_ne, ne_eq]; omega
          go_wp2_with fail
          go_ret
          exact DONE.out _ _ _ _ _ rfl hxl.out hle.out O6.out C6.out G6.out

/-- Some matrix in memory of the call's own. -/
def Mats (w : World) (e : Ending) (w' : World) : Prop :=
  ∃ (a : Option Addr) (cap : Nat) (xss : MatD), e = .returned (.slice a xss.length cap) ∧ xss.length ≤ 8 ∧ (∀ j (hj : j < xss.length), xss[j].length ≤ 9) ∧ Els 1 rRow2 w' 0 w'.heap.size a xss ∧ Below w.heap.size w w'
theorem draw_tr (w : World) (sv : Value) (l : List UInt8) (hl : l.length ≤ 1048576) (hc : Cur.Code w w.heap.size sv l) :
    Calls Try.prog 35 #[sv] w (Mats w) := by
  have HN := hid (new_any w sv l hl hc)
  clear hc
  go_enter Try.func35, Try.ntmps35
  go_wp2_with fail
  refine HN.out.mono ?_
  rintro e w1 ⟨c, rfl, hcw, hc1, hb1⟩
  have HB := hid hb1
  have hsz := hb1.size
  generalize ((0 : Nat), numH l (min 4000 l.length)) = s0 at hc1
  have HC := hid hc1
  clear hb1 hc1
  go_wp2_with fail
  refine (below_pos c 4 sv l s0 _ HC.out (by omega) (by omega)).mono ?_
  rintro e w2 ⟨n, s1, rfl, hn, C1, g1⟩
  have HB2 := hid (HB.out.trans (grown_below g1 hsz hcw))
  have C1h := hid C1
  have hsz2 := HB2.out.size
  clear C1 g1 HC HB
  go_wp2_with fail
  refine (below_pos c 4 sv l s1 _ C1h.out (by omega) (by omega)).mono ?_
  rintro e w3 ⟨m, s2, rfl, hm, C1, g1⟩
  have HB3 := hid (HB2.out.trans (grown_below g1 hsz2 hcw))
  have C2h := hid C1
  have hsz3 := HB3.out.size
  clear C1 g1 C1h HB2
  go_wp2_with fail
  refine (draw_rows c n m sv l s2 _ (by omega) (by omega) C2h.out).mono ?_
  rintro e w4 ⟨a, cap, vs, xss, s3, rfl, hx, hrw, hg, _, g2⟩
  have HB4 := hid (HB3.out.trans (grown_below g2 hsz3 hcw))
  have HE := hid (hg.rd.2.up good_row2 (Nat.zero_le _) (Nat.le_refl _))
  have HX := hid hx
  have HR := hid (fun j (hj : j < xss.length) => show xss[j].length ≤ 9 by have := hrw j hj; omega)
  clear hg g2 HB3 hx hrw
  go_wp2
  go_ret
  exact ⟨a, cap, xss, by rw [HX.out]; rfl, by rw [HX.out]; omega, HR.out, HE.out, HB4.out⟩

/-- Two lists of rationals in memory of the call's own. -/
def TwoL (w : World) (e : Ending) (w' : World) : Prop :=
  ∃ (a b : Option Addr) (cap cap' : Nat) (xs ys : List RatD), e = .returned (.tuple #[.slice a xs.length cap, .slice b ys.length cap']) ∧ xs.length ≤ 9 ∧ ys.length ≤ 9 ∧ Els 2 rRat w' 0 w'.heap.size a xs ∧ Els 2 rRat w' 0 w'.heap.size b ys ∧ Below w.heap.size w w'
set_option maxRecDepth 100000 in
theorem draw_dot (w : World) (sv : Value) (l : List UInt8) (hl : l.length ≤ 1048576) (hc : Cur.Code w w.heap.size sv l) :
    Calls Try.prog 36 #[sv] w (TwoL w) := by
  have HN := hid (new_any w sv l hl hc)
  clear hc
  go_enter Try.func36, Try.ntmps36
  go_wp2_with fail
  refine HN.out.mono ?_
  rintro e w1 ⟨c, rfl, hcw, hc1, hb1⟩
  have HB := hid hb1
  have hsz := hb1.size
  generalize ((0 : Nat), numH l (min 4000 l.length)) = s0 at hc1
  have HC := hid hc1
  clear hb1 hc1
  go_wp2_with fail
  refine (below_pos c 4 sv l s0 _ HC.out (by omega) (by omega)).mono ?_
  rintro e w2 ⟨m, s1, rfl, hm, C1, g1⟩
  have HB2 := hid (HB.out.trans (grown_below g1 hsz hcw))
  have C1h := hid C1.drew
  have hsz2 := HB2.out.size
  clear C1 g1 HC HB
  have D1a := draw_rows c 1 m sv l s1 _ (by omega) (by omega) C1h.out
  rw [show ((1 : Nat) : Int) = 1 from rfl] at D1a
  have D1 := hid D1a
  clear D1a
  have hcl := C1h.out.lt
  go_wp2
  go_region_law (first
    | (have hD2 := D2; clear hD2; go_simp; go_at_call 64; go_must (refine D2.out.mono ?_); rintro e w4 ⟨a2, cap2, vs2, xss2, s3, rfl, hx2, hrw2, hg2, C3, g3⟩; have HX2 := hid hx2; have HR2 := hid hrw2; have HGG := hid hg2; have HC3 := hid C3; have HG3 := hid g3; have hp2 : 0 < xss2.length := (by rw [hx2]; omega); obtain ⟨gb, hgb2, hgc⟩ := gownq_at hg2 hp2; subst hgb2; obtain ⟨bj, capb, hv2, hle2⟩ := row_head hg2 0 hp2; have hv3 := hid hv2; have d1 := (hg2.cellAt 0 hp2).trans hv2; rw [Nat.add_zero] at d1; have HG4 := hid (HG1.out.moved g3 hcl); have d2 := (HG4.out.cellAt 0 hp1).trans hv1.out; rw [Nat.add_zero] at d2; clear hx2 hrw2 hg2 C3 g3 hv2)
    | (go_simp; go_at_call 64; go_must (refine D1.out.mono ?_); rintro e w3 ⟨a1, cap1, vs1, xss1, s2, rfl, hx1, hrw1, hg1, C2, g2⟩; have HX1 := hid hx1; have HR1 := hid hrw1; have HG1 := hid hg1; have HC2 := hid C2; have HG2 := hid g2; have hp1 : 0 < xss1.length := (by rw [hx1]; omega); obtain ⟨ga, hga, hgb⟩ := gownq_at hg1 hp1; subst hga; obtain ⟨aj, capj, hv0, hle⟩ := row_head hg1 0 hp1; have hv1 := hid hv0; have d0 := (hg1.cellAt 0 hp1).trans hv0; rw [Nat.add_zero] at d0; have D2a := draw_rows c 1 m sv l s2 w3 (by omega) (by omega) C2; rw [show ((1 : Nat) : Int) = 1 from rfl] at D2a; have D2 := hid D2a; clear D2a; clear hx1 hrw1 hg1 C2 g2 hv0))
  all_goals
    have hb4 := hid ((HB2.out.drew.trans (grown_below HG2.out hsz2 hcw)).trans (grown_below HG3.out (by have := HG2.out.size; exact Nat.le_trans hsz2 this) hcw))
    have E1 := hid ((mat_at (HG4.out.rd.2) 0 hp1))
    have E2 := hid ((mat_at (HGG.out.rd.2) 0 hp2))
    obtain ⟨p1, p2, p3, p4, p5, p6, p7, p8, p9, p10, p11⟩ := E1.out
    obtain ⟨q1, q2, q3, q4, q5, q6, q7, q8, q9, q10, q11⟩ := E2.out
    simp only [Option.some.injEq, Addr.mk.injEq, and_true] at p5 q5
    obtain ⟨rfl, rfl⟩ := p5
    obtain ⟨rfl, rfl⟩ := q5
    rw [Nat.zero_add] at p8 q8
    have r1 := d2.symm.trans p8
    have r2 := d1.symm.trans q8
    simp only [Option.some.injEq, Value.slice.injEq, true_and] at r1 r2
    obtain ⟨rfl, rfl⟩ := r1
    obtain ⟨rfl, rfl⟩ := r2
    have F1 := hid (p9.up good_rat (Nat.zero_le _) (Nat.le_refl _))
    have F2 := hid (q9.up good_rat (Nat.zero_le _) (Nat.le_refl _))
    have L1 := hid (HR1.out 0 hp1)
    have L2 := hid (HR2.out 0 hp2)
    clear E1 E2 p6 p7 p8 p9 p10 p11 q6 q7 q8 q9 q10 q11 D1 HB2 HG2 HG3 HG4 HGG
    go_wp2_with fail
    go_ret2
    exact ⟨_, _, _, _, _, _, rfl, by have := L1.out; omega, by have := L2.out; omega, F1.out, F2.out, hb4.out⟩
end Go.Proofs.Ythghggnlfnbbgaa.Draw13
