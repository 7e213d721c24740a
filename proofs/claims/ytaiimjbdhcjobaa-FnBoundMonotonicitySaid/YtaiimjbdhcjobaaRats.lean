/- Slices of rationals: readers, arguments opened, the laws' own helpers on them. -/
import Derived.Test.YtaiimjbdhcjobaaRows
import Derived.Test.YtaiimjbdhcjobaaRatLaw
import Derived.Test.YtaiimjbdhcjobaaRatsR
import Derived.Deep.RegionHeld3
import Derived.Deep.DeepCutAuto
namespace Go.Proofs.Ytaiimjbdhcjobaa.Rats
open Go.Deep Go.Joins Go.ChangeShapes Go.WideShapes Go.ChangeAt Go.RowKit
open Go.Proofs.Ytaiimjbdhcjobaa.Num Go.Proofs.Ytaiimjbdhcjobaa.IntRow Go.Proofs.Ytaiimjbdhcjobaa.Rdr Go.Proofs.Ytaiimjbdhcjobaa.HasL Go.Proofs.Ytaiimjbdhcjobaa.RatLaw Go.Proofs.Ytaiimjbdhcjobaa.Keep Go.Proofs.Ytaiimjbdhcjobaa.Kept
set_option linter.unusedVariables false

section
variable {P : Program}
theorem opn_i64 {t : TypeId} (ht : P.underlying t = some (.int .i64)) : Opn P t rI64 := fun H enc W fuel cs y h => by
  obtain ⟨z, e, _, hw⟩ := DataW.trod_int ht h
  exact ⟨z, e, bounds_i64 hw⟩
theorem open_sl {α : Type} {R : Reader α} {k : Nat} {H : Type} {enc : TypeId × Value → H} {W : World} {t e : TypeId} {v : Value} {d : DataW H} {p : List MemPlace} (ht : P.underlying t = some (.slice e)) (hR : Opn P t (rSl k R))
    (hv : Value.okWide P W .any 0 t v) (h : DataW.Trod enc P W 0 (fun _ => true) true t v d p) : ∃ (a : Option Addr) (xs : List α) (cap : Nat), v = .slice a xs.length cap ∧ xs.length ≤ 9223372036854775807 ∧ Els k R W 0 W.heap.size a xs := by
  obtain ⟨a0, len, cap, rfl⟩ := okWide_slice ht hv
  obtain ⟨fuel, hf⟩ := h
  obtain ⟨xs, hl, a, cap', e, hc, he⟩ := hR H enc W fuel _ _ hf
  simp [Value.cells] at e
  obtain ⟨rfl, rfl, rfl⟩ := e
  exact ⟨_, xs, _, rfl, hl, he⟩
end
theorem opn_rat : Opn Try.prog 138 rRat := opn_struct2 Try.underlying138 rfl (by kernel_rfl) (by kernel_rfl) (opn_i64 Try.underlying3) (opn_i64 Try.underlying3)
theorem opn_rats : Opn Try.prog 58 (rSl 2 rRat) := opn_slice Try.underlying58 (by kernel_rfl) (by decide) opn_rat

theorem sz_rats (a : Option Addr) (cap n : Nat) (k r : Int) (w : World) (h0 : 0 ≤ k) (hk : k ≤ 1048576) (hn : n ≤ 9223372036854775807)
    (hr : RowKit.Hid ((k < (n : Nat) ∧ r = -1) ∨ ((n : Nat) ≤ k ∧ r = k - (n : Nat)))) :
    Calls Try.prog 65 #[.slice a n cap, .int .i64 k] w fun e w' => e = .returned (.int .i64 r) ∧ w = w' := by
  by_cases hlen : k < (n : Int)
  · have h1 : k - (n : Int) < 0 := by omega
    have hre : r = -1 := by rcases hr.out with h | h <;> omega
    subst hre
    clear hr
    go_enter Try.func65, Try.ntmps65
    go_wp2
    go_ret
    exact ⟨rfl, rfl⟩
  · have h1 : ¬ (k - (n : Int) < 0) := by omega
    have hre : r = k - (n : Int) := by rcases hr.out with h | h <;> omega
    subst hre
    clear hr
    go_enter Try.func65, Try.ntmps65
    go_wp2
    go_ret
    exact ⟨rfl, rfl⟩

theorem infoRat : (Try.prog.info? 30).map (fun i => (i.zero, i.size, i.bytes)) = some (some (.agg #[.int .i64 0, .int .i64 0]), 2, 16) := by kernel_rfl

set_option maxRecDepth 100000 in
/-- A copy of a slice: a slice of the call's own, which may be written. -/
theorem to_rats (a : Option Addr) (cap : Nat) (xs : List RatD) (lo hi : Nat) (w : World) (hn1 : xs.length ≤ 1048576) (h : Els 2 rRat w lo hi a xs) (hh : hi ≤ w.heap.size) :
    Calls Try.prog 66 #[.slice a xs.length cap] w fun e w' => e = .returned (.slice (some ⟨w.heap.size, 0, none⟩) xs.length xs.length) ∧ Els 2 rRat w' w.heap.size (w.heap.size + 1) (some ⟨w.heap.size, 0, none⟩) xs ∧ (∃ cs, w'.ownsRow w.heap.size 30 2 (.slice (some ⟨w.heap.size, 0, none⟩) xs.length xs.length) xs.length cs) ∧ Below w.heap.size w w' ∧ w.heap.size < w'.heap.size := by
  obtain ⟨i0, hi0, hz0, hz1, hz2⟩ := info_parts infoRat
  have hmk := make_k (P := Try.prog) w 25 30 i0 _ 2 16 Try.underlying25 hi0 hz0 hz1 hz2 (by omega) xs.length hn1
  have hat0 := hid (own_k w 30 (Value.cells (.agg #[.int .i64 0, .int .i64 0])) 2 xs.length hn1)
  go_enter Try.func66, Try.ntmps66
  go_wp2
  go_loopw [4] (fun i wr => ∃ (j : Nat) (cs : List Value), j ≤ xs.length ∧ i = .int .i64 j ∧ Hid (wr.ownsRow w.heap.size 30 2 (.slice (some ⟨w.heap.size, 0, none⟩) xs.length xs.length) xs.length cs) ∧ Hid (Fil 2 rRat wr (w.heap.size + 1) (w.heap.size + 1) cs xs j) ∧ Hid (Below w.heap.size w wr) ∧ w.heap.size < wr.heap.size) (fun i _ => xs.length - (intOf i).toNat)
  case atStart => exact ⟨0, _, Nat.zero_le _, rfl, hat0, hid Fil.zero, hid ((Below.refl _ _).alloc (Nat.le_refl _) _), by simp⟩
  case round =>
    obtain ⟨j, cs, hj, rfl, hown, hfil, hb, hsz⟩ := hrel
    clear hmk
    by_cases hlt : j < xs.length
    · obtain ⟨b, off, rfl, _, hbB, c0, c1⟩ := rats_at (h.grow good_rat hb.out hh) j hlt
      have hbd := hid (rats_bd h j hlt)
      have T := hid (to_rat xs[j].1 xs[j].2 wr)
      have hlt' : (j : Int) < (xs.length : Int) := by omega
      have h0' : (0 : Int) ≤ (j : Int) := by omega
      clear h
      go_wp2_with fail
      refine T.out.mono ?_
      rintro e w1 ⟨rfl, hb1⟩
      have O1 := ownk_below hown.out hb1 (fun q hq => by simp [Value.ownBlock] at hq; omega)
      have HF := hid (hfil.out.keep good_rat (sm_below hb1 (Nat.succ_le_of_lt hsz)) (Nat.le_refl _))
      have hsz1 := hb1.size
      obtain ⟨u0, e0⟩ := ownk_cell O1 j 0 hlt (by omega)
      rw [Nat.add_zero] at e0
      obtain ⟨u1, e1⟩ := ownk_cell O1 j 1 hlt (by omega)
      have f0 := World.ownsRow.frozenAt O1 (j * 2)
      have f1 := World.ownsRow.frozenAt O1 (j * 2 + 1)
      have O2 := (World.ownsRow.stored O1 (j * 2) (.int .i64 xs[j].1)).1
      have O3 := (World.ownsRow.stored O2 (j * 2 + 1) (.int .i64 xs[j].2)).1
      have HO := hid O3
      have HS := hid (show Sm (w.heap.size + 1) (w.heap.size + 1) w1 ((w1.setCell ⟨w.heap.size, j * 2, none⟩ (.int .i64 xs[j].1)).setCell ⟨w.heap.size, j * 2 + 1, none⟩ (.int .i64 xs[j].2)) from fun b h1 h2 => by omega)
      have HF2 := hid ((HF.out.keep good_rat HS.out (Nat.le_refl _)).step hlt rfl hown.out.1 (rat_mk hbd.out.1 hbd.out.2))
      have HB := hid (((hb.out.trans (hb1.mono (Nat.le_of_lt hsz))).setCell (p := ⟨w.heap.size, j * 2, none⟩) (Nat.le_refl _) (.int .i64 xs[j].1)).setCell (p := ⟨w.heap.size, j * 2 + 1, none⟩) (Nat.le_refl _) (.int .i64 xs[j].2))
      have hwl : w.heap.size < ((w1.setCell ⟨w.heap.size, j * 2, none⟩ (.int .i64 xs[j].1)).setCell ⟨w.heap.size, j * 2 + 1, none⟩ (.int .i64 xs[j].2)).heap.size := by (try simp); omega
      clear O1 O2 O3 HF HS hb1 T hbd
      go_wp2_with fail
      go_roundw
      case rel => exact ⟨j + 1, _, by omega, by go_num, HO, HF2, HB, hwl⟩
      case measure => simp [intOf]; omega
    · have e : j = xs.length := by omega
      subst e
      have HE := hid (hfil.out.done good_rat hown.out rfl (show w.heap.size ≤ w.heap.size + 1 by omega) (Nat.le_refl _) (Nat.le_refl _) (Nat.lt_succ_self _))
      clear h hfil
      go_wp2
      go_ret
      exact ⟨rfl, HE.out, ⟨_, hown.out⟩, hb.out, hsz⟩

set_option maxRecDepth 100000 in
/-- Two readings of one slice are the same. -/
theorem eq_rats (a a' : Option Addr) (cap cap' : Nat) (xs : List RatD) (lo hi lo' hi' : Nat) (w : World) (hn1 : xs.length ≤ 1048576) (h : Els 2 rRat w lo hi a xs) (h' : Els 2 rRat w lo' hi' a' xs) (hh : hi ≤ w.heap.size) (hh' : hi' ≤ w.heap.size) :
    Calls Try.prog 42 #[.slice a xs.length cap, .slice a' xs.length cap'] w fun e w' => e = .returned (.bool true) ∧ Below w.heap.size w w' := by
  have hnl : ((xs.length : Int) != (xs.length : Int)) = false := by simp
  go_enter Try.func42, Try.ntmps42
  go_wp2
  go_loopw [5] (fun i wr => ∃ j : Nat, j ≤ xs.length ∧ i = .int .i64 j ∧ Hid (Below w.heap.size w wr)) (fun i _ => xs.length - (intOf i).toNat)
  case atStart => exact ⟨0, Nat.zero_le _, rfl, hid (Below.refl _ _)⟩
  case round =>
    obtain ⟨j, hj, rfl, hb⟩ := hrel
    by_cases hlt : j < xs.length
    · obtain ⟨b, off, rfl, _, hbB, c0, c1⟩ := rats_at (h.grow good_rat hb.out hh) j hlt
      obtain ⟨b', off', rfl, _, hbB', c0', c1'⟩ := rats_at (h'.grow good_rat hb.out hh') j hlt
      have hsz := hb.out.size
      have E := hid (fun W => eq_self xs[j].1 xs[j].2 W)
      clear h h'
      have hlt' : (j : Int) < (xs.length : Int) := by omega
      have h0' : (0 : Int) ≤ (j : Int) := by omega
      have hk0 := kp_refl wr
      go_upto_region 6 with fail
      go_cut [26] (fun s wx => s = .bool false ∧ Kp wr 0 wx)
      case first =>
        go_region_held3 (fun w' => w'.cell? ⟨b, off + j * 2, none⟩ = some (.int .i64 xs[j].1) ∧ w'.cell? ⟨b, off + j * 2 + 1, none⟩ = some (.int .i64 xs[j].2) ∧ w'.cell? ⟨b', off' + j * 2, none⟩ = some (.int .i64 xs[j].1) ∧ w'.cell? ⟨b', off' + j * 2 + 1, none⟩ = some (.int .i64 xs[j].2) ∧ Kp wr 0 w')
          (first
            | (go_split_ands
               repeat' apply And.intro
               all_goals (first | (with_reducible assumption) | (with_reducible exact cell_drew (by assumption)) | (with_reducible exact Kp.drew (by assumption)) | (with_reducible exact Kp.cell (by assumption) hb1 (by omega) (by assumption)) | (with_reducible exact Kp.call (by assumption) hb1))))
          (first
            | (go_split_ands; go_at_call 43; (with_reducible refine (E.out _).mono ?_); rintro e wU ⟨rfl, hb1⟩))
        all_goals
          go_wp2_with fail
          go_meet
          go_split_ands
          exact ⟨rfl, by with_reducible assumption⟩
      case rest =>
        obtain ⟨rfl, hkp⟩ := hcut
        have HB := hid (hb.out.trans (hkp.bel.mono hsz))
        clear hkp hk0
        go_wp2
        go_roundw
        case rel => exact ⟨j + 1, by omega, by go_num, HB⟩
        case measure => simp [intOf]; omega
    · clear h h'
      go_wp2
      go_ret
      exact ⟨rfl, hb.out⟩
end Go.Proofs.Ytaiimjbdhcjobaa.Rats
