/- The laws' own helpers on lists of rationals: copies that may be marked, marks on copies, marks on results, what is held. -/
import Derived.Test.YtjnphlgmmjdeiaaGridQ
import Derived.Test.YtjnphlgmmjdeiaaThaw
namespace Go.Proofs.Ytjnphlgmmjdeiaa.RatsF
open Go.RowKit
open Go.Proofs.Ytjnphlgmmjdeiaa.Num Go.Proofs.Ytjnphlgmmjdeiaa.IntRow Go.Proofs.Ytjnphlgmmjdeiaa.Grid Go.Proofs.Ytjnphlgmmjdeiaa.GridMore Go.Proofs.Ytjnphlgmmjdeiaa.Rdr Go.Proofs.Ytjnphlgmmjdeiaa.HasL Go.Proofs.Ytjnphlgmmjdeiaa.RatLaw Go.Proofs.Ytjnphlgmmjdeiaa.Rats Go.Proofs.Ytjnphlgmmjdeiaa.RatRow Go.Proofs.Ytjnphlgmmjdeiaa.RatOwn Go.Proofs.Ytjnphlgmmjdeiaa.GridQ Go.Proofs.Ytjnphlgmmjdeiaa.Keep Go.Proofs.Ytjnphlgmmjdeiaa.Kept Go.Proofs.Ytjnphlgmmjdeiaa.Thaw
set_option linter.unusedVariables false

theorem to_ratF (x y : Int) (w : World) : Calls Try.prog 87 #[.agg #[.int .i64 x, .int .i64 y]] w fun e w' => e = .returned (.agg #[.int .i64 x, .int .i64 y]) ∧ BF w.heap.size w w' := by
  go_enter Try.func87, Try.ntmps87
  go_wp2
  refine bodyPost_ret (v := .agg #[.int .i64 x, .int .i64 y]) (by simp [results, Try.results87, go_sem]) rfl ⟨rfl, ((((BF.refl _ _).alloc (Nat.le_refl _) _).alloc (by simp) _).alloc (by simp; omega) _)⟩

set_option maxRecDepth 100000 in
/-- A copy of a list: a row of the call's own, nothing frozen. -/
theorem to_ratsF (a : Option Addr) (cap : Nat) (xs : List RatD) (lo hi : Nat) (w : World) (hn1 : xs.length ≤ 1048576) (h : Els 2 rRat w lo hi a xs) (hh : hi ≤ w.heap.size) :
    Calls Try.prog 38 #[.slice a xs.length cap] w fun e w' => e = .returned (.slice (some ⟨w.heap.size, 0, none⟩) xs.length xs.length) ∧ OwnQ w' w.heap.size 35 (.slice (some ⟨w.heap.size, 0, none⟩) xs.length xs.length) xs ∧ BF w.heap.size w w' ∧ w.heap.size < w'.heap.size := by
  obtain ⟨i0, hi0, hz0, hz1, hz2⟩ := info_parts infoRat
  have hmk := make_k (P := Try.prog) w 25 35 i0 _ 2 16 Try.underlying25 hi0 hz0 hz1 hz2 (by omega) xs.length hn1
  have hat0 := hid (ownq_made w 35 xs.length hn1)
  go_enter Try.func38, Try.ntmps38
  go_wp2
  go_loopw [4] (fun i wr => ∃ (j : Nat), j ≤ xs.length ∧ i = .int .i64 j ∧ Hid (OwnQ wr w.heap.size 35 (.slice (some ⟨w.heap.size, 0, none⟩) xs.length xs.length) (fillQ xs j)) ∧ Hid (BF w.heap.size w wr) ∧ w.heap.size < wr.heap.size) (fun i _ => xs.length - (intOf i).toNat)
  case atStart => exact ⟨0, Nat.zero_le _, rfl, hid (by rw [fillQ_zero]; exact hat0.out), hid ((BF.refl _ _).alloc (Nat.le_refl _) _), by simp⟩
  case round =>
    obtain ⟨j, hj, rfl, hown, hb, hsz⟩ := hrel
    clear hmk
    by_cases hlt : j < xs.length
    · obtain ⟨b, off, rfl, _, hbB, c0, c1⟩ := rats_at (h.grow good_rat hb.out.toBelow hh) j hlt
      have hbd := hid (rats_bd h j hlt)
      have T := hid (to_ratF xs[j].1 xs[j].2 wr)
      have hlt' : (j : Int) < (xs.length : Int) := by omega
      have h0' : (0 : Int) ≤ (j : Int) := by omega
      have hfl := hid (fillQ_length xs j hj)
      clear h
      go_wp2_with fail
      refine T.out.mono ?_
      rintro e w1 ⟨rfl, hb1⟩
      have O1 := hid (hown.out.below' hb1.toBelow)
      have hsz1 := hb1.toBelow.size
      have hce := ownr_at hfl.out.symm (show w1.ownsRow w.heap.size 35 2 (.slice (some ⟨w.heap.size, 0, none⟩) xs.length xs.length) xs.length (fr (fillQ xs j)) by have := O1.out.1; unfold OwnR at this; rw [hfl.out] at this; exact this) j (by rw [hfl.out]; exact hlt)
      obtain ⟨u0, e0⟩ : ∃ u, w1.cell? ⟨w.heap.size, j * 2, none⟩ = some u := ⟨_, hce.1⟩
      obtain ⟨u1, e1⟩ : ∃ u, w1.cell? ⟨w.heap.size, j * 2 + 1, none⟩ = some u := ⟨_, hce.2⟩
      clear hce
      have f0 := ownq_free O1.out (j * 2)
      have f1 := ownq_free O1.out (j * 2 + 1)
      have hst := ownq_set O1.out j (by rw [hfl.out]; exact hlt) xs[j] hbd.out
      rw [fillQ_step xs j hlt] at hst
      have HO := hid hst
      have HB := hid (((hb.out.trans (hb1.mono (Nat.le_of_lt hsz))).setCell (p := ⟨w.heap.size, j * 2, none⟩) (Nat.le_refl _) (.int .i64 xs[j].1)).setCell (p := ⟨w.heap.size, j * 2 + 1, none⟩) (Nat.le_refl _) (.int .i64 xs[j].2))
      have hwl : w.heap.size < ((w1.setCell ⟨w.heap.size, j * 2, none⟩ (.int .i64 xs[j].1)).setCell ⟨w.heap.size, j * 2 + 1, none⟩ (.int .i64 xs[j].2)).heap.size := by (try simp); omega
      clear O1 hst hb1 T hbd hfl
      go_wp2_with fail
      go_roundw
      case rel => exact ⟨j + 1, by omega, by go_num, HO, HB, hwl⟩
      case measure => simp [intOf]; omega
    · have e : j = xs.length := by omega
      subst e
      have HE := hown.out
      rw [fillQ_all] at HE
      have HE2 := hid HE
      clear h hown HE
      go_wp2
      go_ret
      exact ⟨rfl, HE2.out, hb.out, hsz⟩

/-! ### marks on copies -/
abbrev rRat0 : Reader RatD := rTwo rInt rInt
theorem wtd_rat0 : Wtd rRat0 (fun _ => ((), ())) := wtd_two wtd_int wtd_int
theorem rat0_open {w : World} {lo hi : Nat} {cs : List Value} {x : RatD} (h : rRat0 w lo hi cs x) : cs = [.int .i64 x.1, .int .i64 x.2] := by
  obtain ⟨c, d, rfl, h1, h2⟩ := h
  have e1 : c = [.int .i64 x.1] := h1
  have e2 : d = [.int .i64 x.2] := h2
  rw [e1, e2]; rfl
theorem els0 {w : World} {lo hi : Nat} {a : Option Addr} {xs : List RatD} (h : Els 2 rRat w lo hi a xs) : Els 2 rRat0 w lo hi a xs := fun h0 => by
  obtain ⟨b, off, e, h1, h2, hc⟩ := h h0
  refine ⟨b, off, e, h1, h2, fun j hj => ?_⟩
  obtain ⟨cs, hl, h3, h4⟩ := hc j hj
  obtain ⟨rfl, _⟩ := rat_open h4
  exact ⟨_, rfl, h3, [_], [_], rfl, rfl, rfl⟩
theorem rats0_at {w : World} {lo hi : Nat} {a : Option Addr} {xs : List RatD} (h : Els 2 rRat0 w lo hi a xs) (j : Nat) (hj : j < xs.length) : ∃ b off, a = some ⟨b, off, none⟩ ∧ lo ≤ b ∧ b < hi ∧ w.cell? ⟨b, off + j * 2, none⟩ = some (.int .i64 xs[j].1) ∧ w.cell? ⟨b, off + j * 2 + 1, none⟩ = some (.int .i64 xs[j].2) := by
  obtain ⟨b, off, e, h1, h2, hc⟩ := h (by omega)
  obtain ⟨cs, hl, h3, h4⟩ := hc j hj
  have h5 := rat0_open h4
  subst h5
  exact ⟨b, off, e, h1, h2, by simpa using h3 0 (by simp), by simpa using h3 1 (by simp)⟩

theorem mark_ratsA (a : Option Addr) (cap lo hi : Nat) (k0 : Int) (xs : List RatD) (w : World) (hn : xs.length ≤ 1048576) (h0 : 0 ≤ k0) (h1 : k0 ≤ 1000000000) (h : Els 2 rRat0 w lo hi a xs) (hT : Thw lo hi w) :
    Calls Try.prog 42 #[.slice a xs.length cap, .int .i64 k0] w fun e w' => e = .returned (.int .i64 (k0 + 2 * (xs.length : Nat))) ∧ KT lo hi w w' := by
  have HT := hid hT
  have HS := hid (Wts.start (wt := fun _ => ((), ())) h)
  clear h hT
  go_enter Try.func42, Try.ntmps42
  go_wp2
  go_loopw [1, 5] (fun q i wr => ∃ (k : Nat) (ys : List RatD), k ≤ xs.length ∧ i = .int .i64 k ∧ q = .int .i64 (k0 + 2 * k) ∧ Hid (Wts 2 rRat0 (fun _ => ((), ())) wr lo hi a xs ys) ∧ Hid (KT lo hi w wr)) (fun _ i _ => xs.length - (intOf i).toNat)
  case atStart => exact ⟨0, xs, Nat.zero_le _, rfl, by go_num, HS, hid (KT.refl _ _ _)⟩
  case round =>
    obtain ⟨k, ys, hk, rfl, rfl, hs, ht⟩ := hrel
    by_cases hlt : k < xs.length
    · have hky : k < ys.length := by rw [hs.out.len]; exact hlt
      obtain ⟨b, off, rfl, hb1, hb2, c0, c1⟩ := rats0_at hs.out.els k hky
      have f0 := (HT.out.nf ht.out.nf) b (off + k * 2) hb1 hb2
      have f1 := (HT.out.nf ht.out.nf) b (off + k * 2 + 1) hb1 hb2
      have hst := KT.int c0 hb1 hb2 (k0 + 2 * (k : Int))
      have c1' : (wr.setCell ⟨b, off + k * 2, none⟩ (.int .i64 (k0 + 2 * (k : Int)))).cell? ⟨b, off + k * 2 + 1, none⟩ = some (.int .i64 ys[k].2) := by
        rw [World.cell?_setCell_other _ _ _ _ (by simp)]; exact c1
      have hst2 := hst.trans (KT.int c1' hb1 hb2 (k0 + 2 * (k : Int) + 1))
      obtain ⟨zs, hz⟩ := hs.out.turn wtd_rat0 hst2
      have HZ := hid hz
      have HK := hid (ht.out.trans hst2)
      have hlt' : (k : Int) < (xs.length : Int) := by omega
      have h0' : (0 : Int) ≤ (k : Int) := by omega
      clear hz hst hst2 hs ht c1'
      go_wp2
      go_roundw
      case rel => exact ⟨k + 1, zs, by omega, by go_num, by go_num, HZ, HK⟩
      case measure => simp [intOf]; omega
    · have e : k = xs.length := by omega
      subst e
      go_wp2
      go_ret
      exact ⟨rfl, ht.out⟩

/-! ### marks on results -/
theorem iba_mk (k0 : Int) (n : Nat) (h0 : 0 ≤ k0) (h1 : k0 ≤ 1000000000000) (hn : n ≤ 1000000000) : IbA (mkQ k0 n) := fun j hj => by
  have hj' := hj
  rw [mkQ_length] at hj'
  rw [mkQ_at k0 n j hj]
  unfold Ib
  dsimp only
  omega
theorem mark_own (lo : Nat) (v : Value) (k0 : Int) (xs : List RatD) (w : World) (hn : xs.length ≤ 1048576) (h0 : 0 ≤ k0) (h1 : k0 ≤ 1000000000) (h : OwnQ w lo 35 v xs) :
    Calls Try.prog 42 #[v, .int .i64 k0] w fun e w' => e = .returned (.int .i64 (k0 + 2 * (xs.length : Nat))) ∧ OwnQ w' lo 35 v (mkQ k0 xs.length) ∧ w.grownBy w' v.ownBlock := by
  have hI := iba_mk k0 xs.length h0 (by omega) (by omega)
  rcases h.1.2 with ⟨hv, h00⟩ | ⟨g, cap, cur, hv, hgl, _⟩
  · have hx : xs = [] := List.length_eq_zero_iff.1 h00
    subst hx hv
    go_enter Try.func42, Try.ntmps42
    go_wp2
    go_loop [1, 5] (fun q i => q = .int .i64 k0 ∧ i = .int .i64 0) (fun _ _ => 0)
    case atStart => exact ⟨rfl, rfl⟩
    case round =>
      obtain ⟨rfl, rfl⟩ := hrel
      go_wp2
      go_ret
      exact ⟨by simp, OwnQ.nil _ _ _, World.grownBy.refl _ _⟩
  · subst hv
    have HO := hid h
    clear h
    go_enter Try.func42, Try.ntmps42
    go_wp2
    go_loopw [1, 5] (fun q i wr => ∃ (k : Nat), k ≤ xs.length ∧ i = .int .i64 k ∧ q = .int .i64 (k0 + 2 * k) ∧ Hid (OwnR wr lo 35 (.slice (some ⟨g, 0, none⟩) xs.length cap) (mtQ k0 xs k)) ∧ Hid (w.grownBy wr (some g))) (fun _ i _ => xs.length - (intOf i).toNat)
    case atStart => exact ⟨0, Nat.zero_le _, rfl, by go_num, hid (by simpa [mtQ, mkQ] using HO.out.1), hid (World.grownBy.refl _ _)⟩
    case round =>
      obtain ⟨k, hk, rfl, rfl, ho, hgr⟩ := hrel
      have hml := hid (mtQ_length k0 xs k hk)
      by_cases hlt : k < xs.length
      · have hlt' : (k : Int) < (xs.length : Int) := by omega
        have h0' : (0 : Int) ≤ (k : Int) := by omega
        have hro : wr.ownsRow lo 35 2 (.slice (some ⟨g, 0, none⟩) xs.length cap) xs.length (fr (mtQ k0 xs k)) := by have := ho.out; unfold OwnR at this; rw [hml.out] at this; exact this
        have hce := ownr_at hml.out.symm hro k (by rw [hml.out]; exact hlt)
        obtain ⟨u0, c0⟩ : ∃ u, wr.cell? ⟨g, k * 2, none⟩ = some u := ⟨_, hce.1⟩
        obtain ⟨u1, c1⟩ : ∃ u, wr.cell? ⟨g, k * 2 + 1, none⟩ = some u := ⟨_, hce.2⟩
        clear hce
        have f0 := World.ownsRow.frozenAt hro (k * 2)
        have f1 := World.ownsRow.frozenAt hro (k * 2 + 1)
        have hst := ownr_set ho.out k (by rw [hml.out]; exact hlt) (k0 + 2 * (k : Int), k0 + 2 * (k : Int) + 1)
        rw [mtQ_step k0 xs k hlt] at hst
        have HS := hid hst
        have HG := hid (grown_trans hgr.out (set2_grown wr g k (.int .i64 (k0 + 2 * (k : Int))) (.int .i64 (k0 + 2 * (k : Int) + 1))))
        clear hst hro ho hgr hml
        go_wp2
        go_roundw
        case rel => exact ⟨k + 1, by omega, by go_num, by go_num, HS, HG⟩
        case measure => simp [intOf]; omega
      · have e : k = xs.length := by omega
        subst e
        have hm := ho.out
        rw [mtQ_all] at hm
        have HM := hid hm
        clear hm hml ho
        go_wp2
        go_ret
        exact ⟨rfl, ⟨HM.out, hI⟩, hgr.out⟩

theorem held_rats (a : Option Addr) (cap : Nat) (k0 : Int) (n lo hi : Nat) (w : World) (hn : n ≤ 1048576) (h0 : 0 ≤ k0) (h1 : k0 ≤ 1000000000) (h : Els 2 rRat w lo hi a (mkQ k0 n)) :
    Calls Try.prog 43 #[.slice a n cap, .int .i64 k0] w fun e w' => e = .returned (.int .i64 (k0 + 2 * (n : Nat))) ∧ w = w' := by
  have hl := hid (mkQ_length k0 n)
  go_enter Try.func43, Try.ntmps43
  go_wp2
  go_loop [1, 5] (fun q i => ∃ k : Nat, k ≤ n ∧ i = .int .i64 k ∧ q = .int .i64 (k0 + 2 * k)) (fun _ i => n - (intOf i).toNat)
  case atStart => exact ⟨0, Nat.zero_le _, rfl, by go_num⟩
  case round =>
    obtain ⟨k, hk, rfl, rfl⟩ := hrel
    by_cases hlt : k < n
    · have hkl : k < (mkQ k0 n).length := by rw [hl.out]; exact hlt
      obtain ⟨b, off, rfl, _, hbB, c0, c1⟩ := rats_at h k hkl
      rw [mkQ_at k0 n k hkl] at c0 c1
      dsimp only at c0 c1
      have ht : ((k0 + 2 * (k : Int)) != (k0 + 2 * (k : Int))) = false := by simp
      have ht2 : ((k0 + 2 * (k : Int) + 1) != (k0 + 2 * (k : Int) + 1)) = false := by simp
      have hlt' : (k : Int) < (n : Int) := by omega
      have h0' : (0 : Int) ≤ (k : Int) := by omega
      clear h hkl
      go_wp2
      go_round
      case rel => exact ⟨k + 1, by omega, by go_num, by go_num⟩
      case measure => simp [intOf]; omega
    · have e : k = n := by omega
      subst e
      clear h
      go_wp2
      go_ret
      exact ⟨rfl, rfl⟩
end Go.Proofs.Ytjnphlgmmjdeiaa.RatsF
