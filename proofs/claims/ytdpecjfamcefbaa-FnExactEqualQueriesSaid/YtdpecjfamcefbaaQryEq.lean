/- The equality of queries, the model's and the program's (spec.EqualQueries, impl.EqualQueries). -/
import Derived.Test.YtdpecjfamcefbaaLibEqual
import Derived.Test.YtdpecjfamcefbaaRowCmpS
import Derived.Test.YtdpecjfamcefbaaAsc
import Derived.Test.YtdpecjfamcefbaaQryP
import Derived.Test.YtdpecjfamcefbaaHasL
import Derived.Test.YtdpecjfamcefbaaLawKit
import Derived.Deep.RegionHeld3
import Derived.Deep.DeepCutAuto
namespace Go.Proofs.Ytdpecjfamcefbaa.QryEq
open Go.RowKit
open Go.Proofs.Ytdpecjfamcefbaa.Num Go.Proofs.Ytdpecjfamcefbaa.IntRow Go.Proofs.Ytdpecjfamcefbaa.CmpL Go.Proofs.Ytdpecjfamcefbaa.RowCmpS Go.Proofs.Ytdpecjfamcefbaa.Asc Go.Proofs.Ytdpecjfamcefbaa.LibEqual Go.Proofs.Ytdpecjfamcefbaa.Rdr Go.Proofs.Ytdpecjfamcefbaa.Dat Go.Proofs.Ytdpecjfamcefbaa.HasL Go.Proofs.Ytdpecjfamcefbaa.LawKit Go.Proofs.Ytdpecjfamcefbaa.QryP Go.Proofs.Ytdpecjfamcefbaa.Keep Go.Proofs.Ytdpecjfamcefbaa.Kept
set_option linter.unusedVariables false

theorem impl_eqa (cs ds : List Value) (x y : AtomD) (lo hi lo' hi' : Nat) (w : World) (hx : x.2.length ≤ 1048576) (hy : y.2.length ≤ 1048576) (h : rAtom w lo hi cs x) (h' : rAtom w lo' hi' ds y) (hh : hi ≤ w.heap.size) (hh' : hi' ≤ w.heap.size) :
    Calls Try.prog 88 #[.agg cs.toArray, .agg ds.toArray] w fun e w' => e = .returned (.bool (decide (keyA x = keyA y))) ∧ Below w.heap.size w w' := by
  obtain ⟨a, cap, rfl, _, _, hr⟩ := atom_open h
  obtain ⟨a', cap', rfl, _, _, hr'⟩ := atom_open h'
  have B2 := hid (((Below.refl w.heap.size w).alloc (Nat.le_refl _) (.cells #[.string x.1, .slice a x.2.length cap] 71)).alloc (by simp) (.cells #[.string y.1, .slice a' y.2.length cap'] 71))
  have E := hid (lib_equal a a' x.2.length y.2.length cap cap' hi hi' x.2 y.2 _ rfl rfl hx hy ((rd_of hr).below (B2.out.mono hh)) ((rd_of hr').below (B2.out.mono hh')) (by simp; omega) (by simp; omega))
  clear h h' hr hr'
  cases he : (x.1.toList == y.1.toList) with
  | false =>
    have hf := hid (show decide (keyA x = keyA y) = false by simpa using key_name he)
    clear E
    go_enter Try.func88, Try.ntmps88
    go_wp2
    go_ret
    exact ⟨by rw [hf.out]; rfl, B2.out⟩
  | true =>
    have hk := hid (key_dec he)
    go_enter Try.func88, Try.ntmps88
    go_wp2_with fail
    refine E.out.mono ?_
    rintro e w1 ⟨rfl, hb⟩
    have HB := hid (B2.out.trans (hb.mono (by simp; omega)))
    clear hb
    go_wp2
    go_ret
    exact ⟨by rw [hk.out]; rfl, HB.out⟩

set_option maxRecDepth 100000 in
theorem lib_eqa (a a' : Option Addr) (cap cap' : Nat) (xs ys : List AtomD) (lo hi lo' hi' : Nat) (w : World) (hn1 : xs.length ≤ 1048576) (hn2 : ys.length ≤ 1048576) (hx : ∀ j (h : j < xs.length), xs[j].2.length ≤ 1048576) (hy : ∀ j (h : j < ys.length), ys[j].2.length ≤ 1048576)
    (h : Els 2 rAtom w lo hi a xs) (h' : Els 2 rAtom w lo' hi' a' ys) (hh : hi ≤ w.heap.size) (hh' : hi' ≤ w.heap.size) :
    Calls Try.prog 87 #[.slice a xs.length cap, .slice a' ys.length cap', .func (.func 88) #[] #[]] w fun e w' => e = .returned (.bool (eqAs xs ys)) ∧ Below w.heap.size w w' := by
  by_cases hl : xs.length = ys.length
  · have hne : ((xs.length : Int) != (ys.length : Int)) = false := by simp [hl]
    have HL := hid hl
    have HX := hid hx
    have HY := hid hy
    have HG := hid h
    have HG' := hid h'
    clear h h' hl hx hy
    go_enter Try.func87, Try.ntmps87
    go_wp2
    go_loopw [7, 8, 9, 17] (fun _ _ _ i wr => ∃ k : Nat, k ≤ xs.length ∧ i = .int .i64 k ∧ Hid (∀ j (h1 : j < xs.length) (h2 : j < ys.length), j < k → keyA xs[j] = keyA ys[j]) ∧ Hid (Below w.heap.size w wr)) (fun _ _ _ i _ => xs.length - (intOf i).toNat)
    case atStart => exact ⟨0, Nat.zero_le _, rfl, hid (fun j _ _ h => by omega), hid (Below.refl _ _)⟩
    case round =>
      obtain ⟨k, hk, rfl, hsame, hb⟩ := hrel
      by_cases hlt : k < xs.length
      · have hlt2 : k < ys.length := by have := HL.out; omega
        obtain ⟨b, off, aj, capj, rfl, _, hbB, c0, c1, rx⟩ := atoms_at (HG.out.grow good_atom hb.out hh) k hlt
        obtain ⟨b', off', aj', capj', rfl, _, hbB', d0, d1, ry⟩ := atoms_at (HG'.out.grow good_atom hb.out hh') k hlt2
        have hsz := hb.out.size
        obtain ⟨c, hcc⟩ : ∃ c, decide (keyA xs[k] = keyA ys[k]) = c := ⟨_, rfl⟩
        have B2 := hid (((Below.refl wr.heap.size wr).alloc (Nat.le_refl _) (.cells #[.string xs[k].1, .slice aj xs[k].2.length capj] 71)).alloc (by simp) (.cells #[.string ys[k].1, .slice aj' ys[k].2.length capj'] 71))
        have E := hid (by
          have := impl_eqa _ _ xs[k] ys[k] lo hi lo' hi' _ (HX.out k hlt) (HY.out k hlt2) (good_atom.keep rx (sm_below B2.out (by omega))) (good_atom.keep ry (sm_below B2.out (by omega))) (by simp; omega) (by simp; omega)
          rw [hcc] at this
          exact this)
        have HC := hid hcc
        have HB2 := hid (hb.out.trans (B2.out.mono hsz))
        have hbo : b < wr.heap.size := by omega
        have hbo' : b' < wr.heap.size := by omega
        have hlt' : (k : Int) < (xs.length : Int) := by omega
        have hlt2' : (k : Int) < (ys.length : Int) := by omega
        have h0' : (0 : Int) ≤ (k : Int) := by omega
        clear hcc rx ry
        cases c with
        | true =>
          have HS := hid (show ∀ j (h1 : j < xs.length) (h2 : j < ys.length), j < k + 1 → keyA xs[j] = keyA ys[j] from fun j h1 h2 hj => by
            by_cases e : j = k
            · subst e; exact of_decide_eq_true HC.out
            · exact hsame.out j h1 h2 (by omega))
          clear hsame
          go_wp2_with fail
          refine E.out.mono ?_
          rintro e w2 ⟨rfl, hb2⟩
          have HB := hid (HB2.out.trans (hb2.mono (by simp; omega)))
          clear hb2
          go_wp2
          go_roundw
          case rel => exact ⟨k + 1, by omega, by go_num, HS, HB⟩
          case measure => simp [intOf]; omega
        | false =>
          have hf := hid (eqAs_at k hlt hlt2 (of_decide_eq_false HC.out))
          clear hsame
          go_wp2_with fail
          refine E.out.mono ?_
          rintro e w2 ⟨rfl, hb2⟩
          have HB := hid (HB2.out.trans (hb2.mono (by simp; omega)))
          clear hb2
          go_wp2
          go_ret
          exact ⟨by rw [hf.out]; rfl, HB.out⟩
      · have hf := hid (eqAs_all HL.out (fun j h1 h2 => hsame.out j h1 h2 (by omega)))
        clear hsame
        go_wp2
        go_ret
        exact ⟨by rw [hf.out]; rfl, hb.out⟩
  · have hne : ((xs.length : Int) != (ys.length : Int)) = true := by simp only [bne_iff_ne]; omega
    have hf := hid (eqAs_len hl)
    clear h h' hl hx hy
    go_enter Try.func87, Try.ntmps87
    go_wp2
    go_ret
    exact ⟨by rw [hf.out]; rfl, Below.refl _ _⟩

theorem atom_le {xs : List AtomD} (h : tots szA xs ≤ 1048576) : ∀ j (hj : j < xs.length), xs[j].2.length ≤ 1048576 := fun j hj => by
  have := elem_le szA xs j hj
  unfold szA at this h
  omega

theorem impl_eqq (cs ds : List Value) (x y : QueryD) (lo hi lo' hi' : Nat) (w : World) (hx : szQ x ≤ 1048576) (hy : szQ y ≤ 1048576) (h : rQuery w lo hi cs x) (h' : rQuery w lo' hi' ds y) (hh : hi ≤ w.heap.size) (hh' : hi' ≤ w.heap.size) :
    Calls Try.prog 43 #[.agg cs.toArray, .agg ds.toArray] w fun e w' => e = .returned (.bool (eqQ x y)) ∧ Below w.heap.size w w' := by
  obtain ⟨a, cap, o, capo, rfl, _, _, ha, ho⟩ := query_open h
  obtain ⟨a', cap', o', capo', rfl, _, _, ha', ho'⟩ := query_open h'
  have hx1 : tots szA x.2.1 ≤ 1048576 := by unfold szQ at hx; omega
  have hx2 : x.2.2.length ≤ 1048576 := by unfold szQ at hx; omega
  have hy1 : tots szA y.2.1 ≤ 1048576 := by unfold szQ at hy; omega
  have hy2 : y.2.2.length ≤ 1048576 := by unfold szQ at hy; omega
  have hxl := tots_len szA x.2.1
  have hyl := tots_len szA y.2.1
  have K1 := hid ((hasl_new w [.int .i64 x.1, .slice a x.2.1.length cap, .slice o x.2.2.length capo] 57).alloc (.cells #[.int .i64 y.1, .slice a' y.2.1.length cap', .slice o' y.2.2.length capo'] 57))
  have K2 := hid (hasl_new (w.alloc (.cells #[.int .i64 x.1, .slice a x.2.1.length cap, .slice o x.2.2.length capo] 57)) [.int .i64 y.1, .slice a' y.2.1.length cap', .slice o' y.2.2.length capo'] 57)
  have B2 := hid (((Below.refl w.heap.size w).alloc (Nat.le_refl _) (.cells #[.int .i64 x.1, .slice a x.2.1.length cap, .slice o x.2.2.length capo] 57)).alloc (by simp) (.cells #[.int .i64 y.1, .slice a' y.2.1.length cap', .slice o' y.2.2.length capo'] 57))
  have E := hid (lib_eqa a a' cap cap' x.2.1 y.2.1 lo hi lo' hi' _ (by omega) (by omega) (atom_le hx1) (atom_le hy1) (ha.keep good_atom (sm_below B2.out hh)) (ha'.keep good_atom (sm_below B2.out hh')) (by simp; omega) (by simp; omega))
  have E2 := hid (fun W (hW : Below w.heap.size w W) => lib_equal o o' x.2.2.length y.2.2.length capo capo' hi hi' x.2.2 y.2.2 W rfl rfl hx2 hy2 ((rd_of ho).below (hW.mono hh)) ((rd_of ho').below (hW.mono hh')) (Nat.le_trans hh hW.size) (Nat.le_trans hh' hW.size))
  simp only [World.size_alloc] at K2
  clear h h' ha ha' ho ho' hx hy hxl hyl hx1 hx2 hy1 hy2
  by_cases h1 : x.1 = y.1
  · have t1 : (x.1 == y.1) = true := by simp [h1]
    have H1 := hid h1
    clear h1
    cases h2 : eqAs x.2.1 y.2.1 with
    | false =>
      have hf := hid (show eqQ x y = false by simp [eqQ, h2])
      rw [h2] at E
      clear h2
      go_enter Try.func43, Try.ntmps43
      go_wp2_with fail
      refine E.out.mono ?_
      rintro e w1 ⟨rfl, hb⟩
      have HB := hid (B2.out.trans (hb.mono (by simp; omega)))
      clear hb
      go_wp2
      go_ret
      exact ⟨by rw [hf.out]; rfl, HB.out⟩
    | true =>
      have hf := hid (show eqQ x y = decide (x.2.2 = y.2.2) by simp [eqQ, h2, H1.out])
      rw [h2] at E
      clear h2
      go_enter Try.func43, Try.ntmps43
      go_wp2_with fail
      refine E.out.mono ?_
      rintro e w1 ⟨rfl, hb⟩
      have HB := hid (B2.out.trans (hb.mono (by simp; omega)))
      obtain ⟨_, _, p2, _, _, _, _⟩ := (K1.out.below hb).three
      obtain ⟨_, _, q2, _, _, _, _⟩ := (K2.out.below hb).three
      clear hb
      go_wp2_with fail
      refine (E2.out _ HB.out).mono ?_
      rintro e w2 ⟨rfl, hb⟩
      have HB2 := hid (HB.out.trans (hb.mono HB.out.size))
      clear hb
      go_wp2
      go_ret
      exact ⟨by rw [hf.out]; rfl, HB2.out⟩
  · have t1 : (x.1 == y.1) = false := by simp [h1]
    have hf := hid (show eqQ x y = false by simp [eqQ, h1])
    clear h1
    go_enter Try.func43, Try.ntmps43
    go_wp2
    go_ret
    exact ⟨by rw [hf.out]; rfl, B2.out⟩

end Go.Proofs.Ytdpecjfamcefbaa.QryEq
