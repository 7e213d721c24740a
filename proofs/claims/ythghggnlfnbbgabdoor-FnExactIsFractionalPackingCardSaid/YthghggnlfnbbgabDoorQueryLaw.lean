/- Contracts of the laws' own helpers on slices of atoms and on queries. -/
import Derived.Test.YthghggnlfnbbgabDoorAtomLaw
import Derived.Deep.RegionHeld3
import Derived.Deep.DeepCutAuto
namespace Go.Proofs.YthghggnlfnbbgabDoor.QueryLaw
open Go.RowKit
open Go.Proofs.YthghggnlfnbbgabDoor.Num Go.Proofs.YthghggnlfnbbgabDoor.IntRow Go.Proofs.YthghggnlfnbbgabDoor.IntLaw Go.Proofs.YthghggnlfnbbgabDoor.GridLaw Go.Proofs.YthghggnlfnbbgabDoor.Rdr Go.Proofs.YthghggnlfnbbgabDoor.Dat Go.Proofs.YthghggnlfnbbgabDoor.HasL Go.Proofs.YthghggnlfnbbgabDoor.AtomLaw Go.Proofs.YthghggnlfnbbgabDoor.Keep Go.Proofs.YthghggnlfnbbgabDoor.Kept
set_option linter.unusedVariables false

theorem sz_atomS (a : Option Addr) (cap : Nat) (xs : List AtomD) (lo hi : Nat) (k r : Int) (w : World) (h0 : 0 ≤ k) (hk : k ≤ 1048576) (hn : xs.length ≤ 9223372036854775807) (h : Els 2 rAtom w lo hi a xs) (hh : hi ≤ w.heap.size)
    (hr : RowKit.Hid ((k < (tots szA xs : Nat) ∧ r = -1) ∨ ((tots szA xs : Nat) ≤ k ∧ r = k - (tots szA xs : Nat)))) :
    Calls Tryd.prog 12 #[.slice a xs.length cap, .int .i64 k] w fun e w' => e = .returned (.int .i64 r) ∧ Below w.heap.size w w' := by
  have htl := tots_len szA xs
  by_cases hlen : k < (xs.length : Int)
  · have h1 : k - (xs.length : Int) < 0 := by omega
    have hre : r = -1 := by rcases hr.out with h | h <;> omega
    subst hre
    clear h hr htl
    go_enter Tryd.func12, Tryd.ntmps12
    go_wp2
    go_ret
    exact ⟨rfl, Below.refl _ _⟩
  · have h1 : ¬ (k - (xs.length : Int) < 0) := by omega
    go_enter Tryd.func12, Tryd.ntmps12
    go_wp2
    go_loopw [1, 5] (fun l i wr => ∃ (j : Nat) (z : Int), j ≤ xs.length ∧ i = .int .i64 j ∧ l = .int .i64 z ∧ 0 ≤ z ∧ z ≤ 1048576 ∧ Hid (z = k - xs.length - (sumf szA xs j : Nat)) ∧ Hid (Below w.heap.size w wr)) (fun _ i _ => xs.length - (intOf i).toNat)
    case atStart => exact ⟨0, _, Nat.zero_le _, rfl, rfl, by omega, by omega, hid (by rw [sumf_zero]; simp), hid (Below.refl _ _)⟩
    case round =>
      obtain ⟨j, z, hj, rfl, rfl, hz0, hz1, hz, hb⟩ := hrel
      clear h1 hlen
      by_cases hlt : j < xs.length
      · obtain ⟨b, off, aj, capj, rfl, _, hbB, c0, c1, rx⟩ := atoms_at (h.grow good_atom hb.out hh) j hlt
        have hst := sumf_step szA xs j hlt
        have hmono := sumf_mono szA xs (show j + 1 ≤ xs.length by omega) (Nat.le_refl _)
        have hzz := hz.out
        have hrr := hr.out
        have ht : (tots szA xs : Int) = xs.length + (sumf szA xs xs.length : Nat) := by unfold tots; omega
        have hsz := hb.out.size
        by_cases hover : z < (szA xs[j] : Nat)
        · have hre : r = -1 := by rcases hrr with h | h <;> omega
          subst hre
          have S := hid (sz_atom _ xs[j] lo hi z (-1) wr hz0 hz1 rx (hid (.inl ⟨hover, rfl⟩)))
          clear h hst hmono hzz hrr ht hover htl rx
          go_wp2_with fail
          refine S.out.mono ?_
          rintro e w2 ⟨rfl, hb2⟩
          have HB := hid (hb.out.trans (hb2.mono hsz))
          clear hb2
          go_wp2
          go_ret
          exact ⟨rfl, HB.out⟩
        · have S := hid (sz_atom _ xs[j] lo hi z (z - (szA xs[j] : Nat)) wr hz0 hz1 rx (hid (.inr ⟨by omega, rfl⟩)))
          have h2 : ¬ (z - (szA xs[j] : Nat) < 0) := by omega
          have h3 : 0 ≤ z - (szA xs[j] : Nat) := by omega
          have hz2 := hid (show z - (szA xs[j] : Nat) = k - xs.length - (sumf szA xs (j + 1) : Nat) by omega)
          clear h hst hmono hzz hrr ht hover htl rx
          go_wp2_with fail
          refine S.out.mono ?_
          rintro e w2 ⟨rfl, hb2⟩
          have HB := hid (hb.out.trans (hb2.mono hsz))
          clear hb2
          go_wp2
          go_roundw
          case rel => exact ⟨j + 1, _, by omega, by go_num, rfl, by omega, by omega, hz2, HB⟩
          case measure => simp [intOf]; omega
      · have e : j = xs.length := by omega
        subst e
        have hre := hid (show z = r by
          have hzz := hz.out
          have ht : (tots szA xs : Int) = xs.length + (sumf szA xs xs.length : Nat) := by unfold tots; omega
          rcases hr.out with h | h <;> omega)
        clear h htl
        go_wp2
        go_ret
        exact ⟨by rw [hre.out]; rfl, hb.out⟩

theorem infoAtom : (Tryd.prog.info? 45).map (fun i => (i.zero, i.size, i.bytes)) = some (some (.agg #[.string ⟨#[]⟩, .slice none 0 0]), 2, 40) := by kernel_rfl

set_option maxRecDepth 100000 in
/-- A copy of a slice: a slice of the call's own. -/
theorem to_atomS (a : Option Addr) (cap : Nat) (xs : List AtomD) (lo hi : Nat) (w : World) (hn : tots szA xs ≤ 1048576) (h : Els 2 rAtom w lo hi a xs) (hh : hi ≤ w.heap.size) :
    Calls Tryd.prog 19 #[.slice a xs.length cap] w fun e w' => e = .returned (.slice (some ⟨w.heap.size, 0, none⟩) xs.length xs.length) ∧ Els 2 rAtom w' w.heap.size w'.heap.size (some ⟨w.heap.size, 0, none⟩) xs ∧ Below w.heap.size w w' := by
  have hn1 : xs.length ≤ 1048576 := by have := tots_len szA xs; omega
  obtain ⟨i0, hi0, hz0, hz1, hz2⟩ := info_parts infoAtom
  have hmk := make_k (P := Tryd.prog) w 30 45 i0 _ 2 40 Tryd.underlying30 hi0 hz0 hz1 hz2 (by omega) xs.length hn1
  have hat0 := hid (own_k w 45 (Value.cells (.agg #[.string ⟨#[]⟩, .slice none 0 0])) 2 xs.length hn1)
  go_enter Tryd.func19, Tryd.ntmps19
  go_wp2
  go_loopw [4] (fun i wr => ∃ (j : Nat) (cs : List Value), j ≤ xs.length ∧ i = .int .i64 j ∧ Hid (wr.ownsRow w.heap.size 45 2 (.slice (some ⟨w.heap.size, 0, none⟩) xs.length xs.length) xs.length cs) ∧ Hid (Fil 2 rAtom wr (w.heap.size + 1) wr.heap.size cs xs j) ∧ Hid (Below w.heap.size w wr) ∧ w.heap.size < wr.heap.size) (fun i _ => xs.length - (intOf i).toNat)
  case atStart => exact ⟨0, _, Nat.zero_le _, rfl, hat0, hid Fil.zero, hid ((Below.refl _ _).alloc (Nat.le_refl _) _), by simp⟩
  case round =>
    obtain ⟨j, cs, hj, rfl, hown, hfil, hb, hsz⟩ := hrel
    clear hmk
    by_cases hlt : j < xs.length
    · obtain ⟨b, off, aj, capj, rfl, _, hbB, c0, c1, rx⟩ := atoms_at (h.grow good_atom hb.out hh) j hlt
      have hrow : szA xs[j] ≤ 1048576 := by have := elem_le szA xs j hlt; omega
      have T := hid (to_atom _ xs[j] lo hi wr hrow rx (by omega))
      have hlt' : (j : Int) < (xs.length : Int) := by omega
      have h0' : (0 : Int) ≤ (j : Int) := by omega
      clear h rx
      go_wp2_with fail
      refine T.out.mono ?_
      rintro e w1 ⟨ds, rfl, rd, hb1⟩
      obtain ⟨aD, capD, hds, _⟩ := atom_open rd
      subst hds
      have O1 := ownk_below hown.out hb1 (fun q hq => by simp [Value.ownBlock] at hq; omega)
      have HF := hid (hfil.out.keep good_atom (sm_below hb1 (Nat.le_refl _)) hb1.size)
      have HD := hid ((good_atom).up rd (show w.heap.size + 1 ≤ wr.heap.size by omega) (Nat.le_refl _))
      have hsz1 := hb1.size

      obtain ⟨u0, e0⟩ := ownk_cell O1 j 0 hlt (by omega)
      rw [Nat.add_zero] at e0
      obtain ⟨u1, e1⟩ := ownk_cell O1 j 1 hlt (by omega)
      have f0 := World.ownsRow.frozenAt O1 (j * 2)
      have f1 := World.ownsRow.frozenAt O1 (j * 2 + 1)
      have O2 := (World.ownsRow.stored O1 (j * 2) (.string xs[j].1)).1
      have O3 := (World.ownsRow.stored O2 (j * 2 + 1) (.slice aD xs[j].2.length capD)).1
      have HO := hid O3
      have HS := hid (show Sm (w.heap.size + 1) w1.heap.size w1 ((w1.setCell ⟨w.heap.size, j * 2, none⟩ (.string xs[j].1)).setCell ⟨w.heap.size, j * 2 + 1, none⟩ (.slice aD xs[j].2.length capD)) from sm_trans (sm_set _ (.inl (Nat.lt_succ_self _))) (sm_set _ (.inl (Nat.lt_succ_self _))))
      have hwz : w1.heap.size ≤ ((w1.setCell ⟨w.heap.size, j * 2, none⟩ (.string xs[j].1)).setCell ⟨w.heap.size, j * 2 + 1, none⟩ (.slice aD xs[j].2.length capD)).heap.size := by simp
      have HF2 := hid ((HF.out.keep good_atom HS.out hwz).step hlt rfl hown.out.1 (good_atom.up (good_atom.keep HD.out HS.out) (Nat.le_refl _) hwz))
      have HB := hid (((hb.out.trans (hb1.mono (Nat.le_of_lt hsz))).setCell (p := ⟨w.heap.size, j * 2, none⟩) (Nat.le_refl _) (.string xs[j].1)).setCell (p := ⟨w.heap.size, j * 2 + 1, none⟩) (Nat.le_refl _) (.slice aD xs[j].2.length capD))
      have hwl : w.heap.size < ((w1.setCell ⟨w.heap.size, j * 2, none⟩ (.string xs[j].1)).setCell ⟨w.heap.size, j * 2 + 1, none⟩ (.slice aD xs[j].2.length capD)).heap.size := by omega
      clear O1 O2 O3 HF HD HS hb1 rd hwz T
      go_wp2_with fail
      go_roundw
      case rel => exact ⟨j + 1, _, by omega, by go_num, HO, HF2, HB, hwl⟩
      case measure => simp [intOf]; omega
    · have e : j = xs.length := by omega
      subst e
      have HE := hid (hfil.out.done good_atom hown.out rfl (show w.heap.size ≤ w.heap.size + 1 by omega) (Nat.le_refl _) (Nat.le_refl _) hsz)
      clear h hown hfil
      go_wp2
      go_ret
      exact ⟨rfl, HE.out, hb.out⟩

set_option maxRecDepth 100000 in
/-- Two readings of one slice are the same. -/
theorem eq_atomS (a a' : Option Addr) (cap cap' : Nat) (xs : List AtomD) (lo hi lo' hi' : Nat) (w : World) (hn : tots szA xs ≤ 1048576) (h : Els 2 rAtom w lo hi a xs) (h' : Els 2 rAtom w lo' hi' a' xs) (hh : hi ≤ w.heap.size) (hh' : hi' ≤ w.heap.size) :
    Calls Tryd.prog 29 #[.slice a xs.length cap, .slice a' xs.length cap'] w fun e w' => e = .returned (.bool true) ∧ Below w.heap.size w w' := by
  have hn1 : xs.length ≤ 1048576 := by have := tots_len szA xs; omega
  have hnl : ((xs.length : Int) != (xs.length : Int)) = false := by simp
  go_enter Tryd.func29, Tryd.ntmps29
  go_wp2
  go_loopw [5] (fun i wr => ∃ j : Nat, j ≤ xs.length ∧ i = .int .i64 j ∧ Hid (Below w.heap.size w wr)) (fun i _ => xs.length - (intOf i).toNat)
  case atStart => exact ⟨0, Nat.zero_le _, rfl, hid (Below.refl _ _)⟩
  case round =>
    obtain ⟨j, hj, rfl, hb⟩ := hrel
    by_cases hlt : j < xs.length
    · obtain ⟨b, off, aj, capj, rfl, _, hbB, c0, c1, rx⟩ := atoms_at (h.grow good_atom hb.out hh) j hlt
      obtain ⟨b', off', aj', capj', rfl, _, hbB', c0', c1', rx'⟩ := atoms_at (h'.grow good_atom hb.out hh') j hlt
      have hrow : szA xs[j] ≤ 1048576 := by have := elem_le szA xs j hlt; omega
      have hsz := hb.out.size
      have E := hid (fun W (hW : Below wr.heap.size wr W) => eq_atom _ _ xs[j] lo hi lo' hi' W hrow (good_atom.grow rx hW (by omega)) (good_atom.grow rx' hW (by omega)) (by have := hW.size; omega) (by have := hW.size; omega))
      clear h h' rx rx'
      have hlt' : (j : Int) < (xs.length : Int) := by omega
      have h0' : (0 : Int) ≤ (j : Int) := by omega
      have hk0 := kp_refl wr
      go_upto_region 6 with fail
      go_cut [26] (fun s wx => s = .bool false ∧ Kp wr 0 wx)
      case first =>
        go_region_held3 (fun w' => w'.cell? ⟨b, off + j * 2, none⟩ = some (.string xs[j].1) ∧ w'.cell? ⟨b, off + j * 2 + 1, none⟩ = some (.slice aj xs[j].2.length capj) ∧ w'.cell? ⟨b', off' + j * 2, none⟩ = some (.string xs[j].1) ∧ w'.cell? ⟨b', off' + j * 2 + 1, none⟩ = some (.slice aj' xs[j].2.length capj') ∧ Kp wr 0 w')
          (first
            | (go_split_ands
               repeat' apply And.intro
               all_goals (first | (with_reducible assumption) | (with_reducible exact cell_drew (by assumption)) | (with_reducible exact Kp.drew (by assumption)) | (with_reducible exact Kp.cell (by assumption) hb1 (by omega) (by assumption)) | (with_reducible exact Kp.call (by assumption) hb1))))
          (first
            | (go_split_ands; go_at_call 48; (with_reducible refine (E.out _ (Kp.bel (n := 0) (by with_reducible assumption))).mono ?_); rintro e wU ⟨rfl, hb1⟩))
        all_goals
          go_wp2_with fail
          go_meet
          go_split_ands
          exact ⟨rfl, by with_reducible assumption⟩
      case rest =>
        obtain ⟨rfl, hkp⟩ := hcut
        have HB := hid (hb.out.trans (hkp.bel.mono hsz))
        clear hkp hk0
        go_wp2
        go_roundw
        case rel => exact ⟨j + 1, by omega, by go_num, HB⟩
        case measure => simp [intOf]; omega
    · clear h h'
      go_wp2
      go_ret
      exact ⟨rfl, hb.out⟩


theorem sz_query (cs : List Value) (x : QueryD) (lo hi : Nat) (k r : Int) (w : World) (h0 : 0 ≤ k) (hk : k ≤ 1048576) (h : rQuery w lo hi cs x) (hh : hi ≤ w.heap.size)
    (hr : RowKit.Hid ((k < (szQ x : Nat) ∧ r = -1) ∨ ((szQ x : Nat) ≤ k ∧ r = k - (szQ x : Nat)))) :
    Calls Tryd.prog 4 #[.agg cs.toArray, .int .i64 k] w fun e w' => e = .returned (.int .i64 r) ∧ Below w.heap.size w w' := by
  obtain ⟨a, cap, o, capo, rfl, hz1, hz2, ha, ho⟩ := query_open h
  have he : szQ x = tots szA x.2.1 + x.2.2.length := rfl
  have hrr := hr.out
  rw [he] at hrr
  have K0 := hid (hasl_new w [.int .i64 x.1, .slice a x.2.1.length cap, .slice o x.2.2.length capo] 25)
  have B1 := hid ((Below.refl w.heap.size w).alloc (Nat.le_refl _) (.cells #[.int .i64 x.1, .slice a x.2.1.length cap, .slice o x.2.2.length capo] 25))
  have G1 := hid (ha.keep good_atom (sm_below B1.out hh))
  have hsz1 := B1.out.size
  clear h hr he
  by_cases h1 : k < (tots szA x.2.1 : Nat)
  · obtain rfl : r = -1 := by omega
    have S := hid (sz_atomS a cap x.2.1 lo hi k (-1) _ h0 hk hz1 G1.out (by omega) (hid (.inl ⟨h1, rfl⟩)))
    clear hrr h1
    go_enter Tryd.func4, Tryd.ntmps4
    go_wp2_with fail
    refine S.out.mono ?_
    rintro e w1 ⟨rfl, hb⟩
    have HB := hid (B1.out.trans (hb.mono hsz1))
    clear hb
    go_wp2
    go_ret
    exact ⟨rfl, HB.out⟩
  · have S := hid (sz_atomS a cap x.2.1 lo hi k (k - (tots szA x.2.1 : Nat)) _ h0 hk hz1 G1.out (by omega) (hid (.inr ⟨by omega, rfl⟩)))
    have t1 : ¬ (k - (tots szA x.2.1 : Nat) < 0) := by omega
    by_cases h2 : k - (tots szA x.2.1 : Nat) < (x.2.2.length : Int)
    · obtain rfl : r = -1 := by omega
      have S2 := hid (fun W => sz_int o x.2.2.length capo (k - (tots szA x.2.1 : Nat)) (-1) W (by omega) (by omega) (by omega) (.inl ⟨h2, rfl⟩))
      clear hrr h2
      go_enter Tryd.func4, Tryd.ntmps4
      go_wp2_with fail
      refine S.out.mono ?_
      rintro e w1 ⟨rfl, hb⟩
      have HB := hid (B1.out.trans (hb.mono hsz1))
      obtain ⟨c0, c1, c2, _, _, _, _⟩ := (K0.out.below hb).three
      clear hb
      go_wp2_with fail
      refine (S2.out _).mono ?_
      rintro e w2 ⟨rfl, rfl⟩
      go_wp2
      go_ret
      exact ⟨rfl, HB.out⟩
    · have hre : r = k - (tots szA x.2.1 : Nat) - (x.2.2.length : Int) := by omega
      subst hre
      have S2 := hid (fun W => sz_int o x.2.2.length capo (k - (tots szA x.2.1 : Nat)) (k - (tots szA x.2.1 : Nat) - (x.2.2.length : Int)) W (by omega) (by omega) (by omega) (.inr ⟨by omega, rfl⟩))
      have t2 : ¬ (k - (tots szA x.2.1 : Nat) - (x.2.2.length : Int) < 0) := by omega
      clear hrr h2
      go_enter Tryd.func4, Tryd.ntmps4
      go_wp2_with fail
      refine S.out.mono ?_
      rintro e w1 ⟨rfl, hb⟩
      have HB := hid (B1.out.trans (hb.mono hsz1))
      obtain ⟨c0, c1, c2, _, _, _, _⟩ := (K0.out.below hb).three
      clear hb
      go_wp2_with fail
      refine (S2.out _).mono ?_
      rintro e w2 ⟨rfl, rfl⟩
      go_wp2
      go_ret
      exact ⟨rfl, HB.out⟩

set_option maxRecDepth 100000 in
theorem to_query (cs : List Value) (x : QueryD) (lo hi : Nat) (w : World) (hs : szQ x ≤ 1048576) (h : rQuery w lo hi cs x) (hh : hi ≤ w.heap.size) :
    Calls Tryd.prog 7 #[.agg cs.toArray] w fun e w' => ∃ ds : List Value, e = .returned (.agg ds.toArray) ∧ rQuery w' w.heap.size w'.heap.size ds x ∧ Below w.heap.size w w' := by
  obtain ⟨a, cap, o, capo, rfl, hz1, hz2, ha, ho⟩ := query_open h
  have hq : szQ x = tots szA x.2.1 + x.2.2.length := rfl
  have hn : tots szA x.2.1 ≤ 1048576 := by omega
  have hn2 : x.2.2.length ≤ 1048576 := by omega
  have hrd := rd_of ho
  have K0 := hid (((hasl_new w [.int .i64 x.1, .slice a x.2.1.length cap, .slice o x.2.2.length capo] 25).alloc (.cells #[.int .i64 0, .slice none 0 0, .slice none 0 0] 32)).alloc (.cells #[.int .i64 x.1, .slice none 0 0, .slice none 0 0] 32))
  have K1 := hid ((hasl_new (w.alloc (.cells #[.int .i64 x.1, .slice a x.2.1.length cap, .slice o x.2.2.length capo] 25)) [.int .i64 0, .slice none 0 0, .slice none 0 0] 32).alloc (.cells #[.int .i64 x.1, .slice none 0 0, .slice none 0 0] 32))
  have K2 := hid (hasl_new ((w.alloc (.cells #[.int .i64 x.1, .slice a x.2.1.length cap, .slice o x.2.2.length capo] 25)).alloc (.cells #[.int .i64 0, .slice none 0 0, .slice none 0 0] 32)) [.int .i64 x.1, .slice none 0 0, .slice none 0 0] 32)
  have B3 := hid ((((Below.refl w.heap.size w).alloc (Nat.le_refl _) (.cells #[.int .i64 x.1, .slice a x.2.1.length cap, .slice o x.2.2.length capo] 25)).alloc (by simp) (.cells #[.int .i64 0, .slice none 0 0, .slice none 0 0] 32)).alloc (by simp; omega) (.cells #[.int .i64 x.1, .slice none 0 0, .slice none 0 0] 32))
  have T := hid (to_atomS a cap x.2.1 lo hi _ hn (ha.keep good_atom (sm_below B3.out hh)) (by simp; omega))
  have T2 := hid (fun W (hW : Below w.heap.size w W) => to_ints o capo hi x.2.2 W hn2 (hrd.below (hW.mono hh)) (Nat.le_trans hh hW.size))
  simp only [World.size_alloc] at K1 K2
  clear h ha ho hrd
  go_enter Tryd.func7, Tryd.ntmps7
  go_wp2_with fail
  refine T.out.mono ?_
  rintro e w1 ⟨rfl, hel, hb⟩
  have hs1 := hb.size
  simp only [World.size_alloc] at hs1 hel hb ⊢
  obtain ⟨S1, hS1⟩ : ∃ v : Value, v = .slice (some ⟨w.heap.size + 1 + 1 + 1, 0, none⟩) x.2.1.length x.2.1.length := ⟨_, rfl⟩
  have P0 := hid (K0.out.below (hb.mono (by first | exact Nat.le_refl _ | simp)))
  have P1 := hid (K1.out.below (hb.mono (by first | exact Nat.le_refl _ | simp)))
  have P2 := hid (K2.out.below (hb.mono (by first | exact Nat.le_refl _ | simp)))
  have HA := hid hel
  have HB := hid (B3.out.trans (hb.mono (by omega)))
  obtain ⟨a0, a1, a2, a3, a4, a5, a6⟩ := P0.out.three
  obtain ⟨q0, q1, q2, q3, q4, q5, q6⟩ := P2.out.three
  have HS1 := hid hS1
  clear hel hb K0 K1 K2 T hS1 a3 a4 a5 a6
  go_wp2_with fail
  refine (T2.out _ (HB.out.setCell (by simp; omega) _)).mono ?_
  rintro e w2 ⟨rfl, hat, hb⟩
  have hs2 := hb.size
  simp only [World.size_setCell] at hs2 hat hb ⊢
  have HB2 := hid ((HB.out.setCell (p := ⟨w.heap.size + 1 + 1, 1, none⟩) (by simp; omega) (.slice (some ⟨w.heap.size + 1 + 1 + 1, 0, none⟩) x.2.1.length x.2.1.length)).trans (hb.mono (by omega)))
  have R1 := hid ((P1.out.far (c := w.heap.size + 1 + 1) (o := 1) (by omega) (.slice (some ⟨w.heap.size + 1 + 1 + 1, 0, none⟩) x.2.1.length x.2.1.length)).below (by simp only [World.size_setCell]; exact hb))
  have R2 := hid ((P2.out.put 1 (.slice (some ⟨w.heap.size + 1 + 1 + 1, 0, none⟩) x.2.1.length x.2.1.length)).below (by simp only [World.size_setCell]; exact hb))
  have HA2 := hid (((HA.out.keep good_atom (sm_set (g := w.heap.size + 1 + 1) (o := 1) (.slice (some ⟨w.heap.size + 1 + 1 + 1, 0, none⟩) x.2.1.length x.2.1.length) (.inl (by omega)))).keep good_atom (sm_below hb (Nat.le_refl _))))
  have HT := hid hat
  have HR := hid ((((R1.out.far (c := w.heap.size + 1 + 1) (o := 2) (by omega) (.slice (some ⟨w1.heap.size, 0, none⟩) x.2.2.length x.2.2.length)).put 0 (.int .i64 x.1)).put 1 (.slice (some ⟨w.heap.size + 1 + 1 + 1, 0, none⟩) x.2.1.length x.2.1.length)).put 2 (.slice (some ⟨w1.heap.size, 0, none⟩) x.2.2.length x.2.2.length))
  obtain ⟨d0, d1, d2, d3, d4, d5, d6⟩ := R1.out.three
  obtain ⟨q0', q1', q2', q3', q4', q5', q6'⟩ := HasL.three R2.out
  obtain ⟨r0, r1, r2, _, _, _, _⟩ := HasL.three HR.out
  clear hat hb P0 P1 P2 HA HB q0 q1 q2 q3 q4 q5 q6 a0 a1 a2 R1 R2 T2
  go_wp2
  refine bodyPost_ret (v := .agg #[.int .i64 x.1, .slice (some ⟨w.heap.size + 1 + 1 + 1, 0, none⟩) x.2.1.length x.2.1.length, .slice (some ⟨w1.heap.size, 0, none⟩) x.2.2.length x.2.2.length]) (by simp [results, Tryd.results7, go_sem, r0, r1, r2]) rfl ⟨[.int .i64 x.1, .slice (some ⟨w.heap.size + 1 + 1 + 1, 0, none⟩) x.2.1.length x.2.1.length, .slice (some ⟨w1.heap.size, 0, none⟩) x.2.2.length x.2.2.length], rfl, ?_, ?_⟩
  · have hl := HT.out.lt
    refine query_mk hz1 hz2 ?_ ?_
    · exact (((((HA2.out.keep good_atom (sm_set _ (.inl (by omega)))).keep good_atom (sm_set _ (.inl (by omega)))).keep good_atom (sm_set _ (.inl (by omega)))).keep good_atom (sm_set _ (.inl (by omega)))).up good_atom (by omega) (by simp; omega))
    · exact ((((((of_at (lo := w1.heap.size) (hi := w1.heap.size + 1) HT.out (Nat.le_refl _) (by omega)).keep good_int (sm_set _ (.inl (by omega)))).keep good_int (sm_set _ (.inl (by omega)))).keep good_int (sm_set _ (.inl (by omega)))).keep good_int (sm_set _ (.inl (by omega)))).up good_int (by omega) (by simp; omega))
  · exact (((HB2.out.setCell (by simp; omega) _).setCell (by simp) _).setCell (by simp) _).setCell (by simp) _

theorem eq_query (cs ds : List Value) (x : QueryD) (lo hi lo' hi' : Nat) (w : World) (hs : szQ x ≤ 1048576) (h : rQuery w lo hi cs x) (h' : rQuery w lo' hi' ds x) (hh : hi ≤ w.heap.size) (hh' : hi' ≤ w.heap.size) :
    Calls Tryd.prog 10 #[.agg cs.toArray, .agg ds.toArray] w fun e w' => e = .returned (.bool true) ∧ Below w.heap.size w w' := by
  obtain ⟨a, cap, o, capo, rfl, hz1, hz2, ha, ho⟩ := query_open h
  obtain ⟨a', cap', o', capo', rfl, _, _, ha', ho'⟩ := query_open h'
  have hq : szQ x = tots szA x.2.1 + x.2.2.length := rfl
  have hn : tots szA x.2.1 ≤ 1048576 := by omega
  have hn2 : x.2.2.length ≤ 1048576 := by omega
  have K1 := hid ((hasl_new w [.int .i64 x.1, .slice a x.2.1.length cap, .slice o x.2.2.length capo] 32).alloc (.cells #[.int .i64 x.1, .slice a' x.2.1.length cap', .slice o' x.2.2.length capo'] 32))
  have K2 := hid (hasl_new (w.alloc (.cells #[.int .i64 x.1, .slice a x.2.1.length cap, .slice o x.2.2.length capo] 32)) [.int .i64 x.1, .slice a' x.2.1.length cap', .slice o' x.2.2.length capo'] 32)
  have B2 := hid (((Below.refl w.heap.size w).alloc (Nat.le_refl _) (.cells #[.int .i64 x.1, .slice a x.2.1.length cap, .slice o x.2.2.length capo] 32)).alloc (by simp) (.cells #[.int .i64 x.1, .slice a' x.2.1.length cap', .slice o' x.2.2.length capo'] 32))
  have E := hid (eq_atomS a a' cap cap' x.2.1 lo hi lo' hi' _ hn (ha.keep good_atom (sm_below B2.out hh)) (ha'.keep good_atom (sm_below B2.out hh')) (by simp; omega) (by simp; omega))
  have E2 := hid (fun W (hW : Below w.heap.size w W) => eq_ints o o' capo capo' x.2.2 hi hi' W hn2 ((rd_of ho).below (hW.mono hh)) ((rd_of ho').below (hW.mono hh')) (Nat.le_trans hh hW.size) (Nat.le_trans hh' hW.size))
  have hne : (x.1 != x.1) = false := by simp
  simp only [World.size_alloc] at K2
  clear h h' ha ha' ho ho'
  go_enter Tryd.func10, Tryd.ntmps10
  go_wp2_with fail
  refine E.out.mono ?_
  rintro e w1 ⟨rfl, hb⟩
  have HB := hid (B2.out.trans (hb.mono (by simp; omega)))
  obtain ⟨_, _, p2, _, _, _, _⟩ := (K1.out.below hb).three
  obtain ⟨_, _, q2, _, _, _, _⟩ := (K2.out.below hb).three
  clear hb
  go_wp2_with fail
  refine (E2.out _ HB.out).mono ?_
  rintro e w2 ⟨rfl, hb⟩
  have HB2 := hid (HB.out.trans (hb.mono HB.out.size))
  clear hb
  go_wp2
  go_ret
  exact ⟨rfl, HB2.out⟩
end Go.Proofs.YthghggnlfnbbgabDoor.QueryLaw
