/- The program's quotients by the diagonal. -/
import Derived.Test.YtjnphlgmmjdeiaaSolX
import Derived.Test.YtjnphlgmmjdeiaaMvp
namespace Go.Proofs.Ytjnphlgmmjdeiaa.SolQ
open Go.RowKit
open Go.Proofs.Ytjnphlgmmjdeiaa.Num Go.Proofs.Ytjnphlgmmjdeiaa.IntRow Go.Proofs.Ytjnphlgmmjdeiaa.GridMore Go.Proofs.Ytjnphlgmmjdeiaa.Rdr Go.Proofs.Ytjnphlgmmjdeiaa.HasL Go.Proofs.Ytjnphlgmmjdeiaa.Rat Go.Proofs.Ytjnphlgmmjdeiaa.RatLaw Go.Proofs.Ytjnphlgmmjdeiaa.Rats Go.Proofs.Ytjnphlgmmjdeiaa.RatRow Go.Proofs.Ytjnphlgmmjdeiaa.RatOwn Go.Proofs.Ytjnphlgmmjdeiaa.GridQ Go.Proofs.Ytjnphlgmmjdeiaa.GridQ2 Go.Proofs.Ytjnphlgmmjdeiaa.RatsSS Go.Proofs.Ytjnphlgmmjdeiaa.Smq Go.Proofs.Ytjnphlgmmjdeiaa.SmqI Go.Proofs.Ytjnphlgmmjdeiaa.Qops Go.Proofs.Ytjnphlgmmjdeiaa.LinP Go.Proofs.Ytjnphlgmmjdeiaa.Dot Go.Proofs.Ytjnphlgmmjdeiaa.Mvp Go.Proofs.Ytjnphlgmmjdeiaa.SolP Go.Proofs.Ytjnphlgmmjdeiaa.Keep Go.Proofs.Ytjnphlgmmjdeiaa.Kept Go.Proofs.Ytjnphlgmmjdeiaa.Cells
set_option linter.unusedVariables false

theorem quo_none {m : MatD} {N k n : Nat} (h : quo m N k = none) (hk : k ≤ n) : quo m N n = none := by
  induction n with
  | zero => have e : k = 0 := by omega
            subst e; exact h
  | succ n ih =>
    by_cases e : k = n + 1
    · subst e; exact h
    · rw [quo, ih (by omega)]; rfl
theorem quo_step {m : MatD} {N k : Nat} {o : List RatD} (h : quo m N k = some o) (hk : k < m.length) (h1 : N < m[k].length) (h2 : k < m[k].length) :
    (okQ (divQ m[k][N] m[k][k]) = true → quo m N (k + 1) = some (o ++ [(fstQ (divQ m[k][N] m[k][k]), sndQ (divQ m[k][N] m[k][k]))])) ∧ (okQ (divQ m[k][N] m[k][k]) = false → quo m N (k + 1) = none) := by
  have e1 : m.getD k [] = m[k] := by rw [List.getD_eq_getElem?_getD, List.getElem?_eq_getElem hk]; rfl
  rw [quo, h, Option.bind_some, e1, List.getD_eq_getElem?_getD, List.getElem?_eq_getElem h1, List.getD_eq_getElem?_getD, List.getElem?_eq_getElem h2, Option.getD_some, Option.getD_some]
  cases divQ m[k][N] m[k][k] with
  | none => exact ⟨fun h => (by cases h), fun _ => rfl⟩
  | some r => exact ⟨fun _ => rfl, fun h => (by cases h)⟩
theorem quo_len {m : MatD} {N k : Nat} {o : List RatD} (h : quo m N k = some o) : o.length = k := by
  induction k generalizing o with
  | zero => rw [quo] at h; injection h with h; subst h; rfl
  | succ k ih =>
    rw [quo] at h
    cases hq : quo m N k with
    | none => rw [hq] at h; cases h
    | some q =>
      rw [hq, Option.bind_some] at h
      cases hd : divQ ((m.getD k []).getD N (0, 0)) ((m.getD k []).getD k (0, 0)) with
      | none => rw [hd] at h; cases h
      | some r =>
        rw [hd] at h
        injection h with h
        subst h
        simp [ih hq]
theorem quo_iba {m : MatD} {N k : Nat} {o : List RatD} (h : quo m N k = some o) : IbA o := by
  induction k generalizing o with
  | zero => rw [quo] at h; injection h with h; subst h; exact iba_nil
  | succ k ih =>
    rw [quo] at h
    cases hq : quo m N k with
    | none => rw [hq] at h; cases h
    | some q =>
      rw [hq, Option.bind_some] at h
      cases hd : divQ ((m.getD k []).getD N (0, 0)) ((m.getD k []).getD k (0, 0)) with
      | none => rw [hd] at h; cases h
      | some r =>
        rw [hd] at h
        injection h with h
        subst h
        exact iba_snoc (ih hq) (vr_ib (divQ_vr hd))

set_option maxRecDepth 100000 in
set_option maxHeartbeats 2000000 in
theorem impl_quo (g cap N : Nat) (vs : List Value) (m : MatD) (w : World) (lo : Nat) (hN : N ≤ 100) (hl : m.length = N) (hrow : Hid (∀ j (hj : j < m.length), m[j].length = N + 1)) (ho : GOwnQ w lo tQ tR (.slice (some ⟨g, 0, none⟩) N cap) vs m) :
    Calls Try.prog 62 #[.slice (some ⟨g, 0, none⟩) N cap] w fun e w' => ∃ a0 c0, e = .returned (.tuple #[.slice a0 (lstO (quo m N N)).length c0, .bool (okO (quo m N N))]) ∧ OwnQ w' w.heap.size tR (.slice a0 (lstO (quo m N N)).length c0) (lstO (quo m N N)) ∧ Below w.heap.size w w' := by
  obtain ⟨i0, hi0, hz0, hz1, hz2⟩ := info_parts infoRat
  have hmk := make_k (P := Try.prog) w 25 35 i0 _ 2 16 Try.underlying25 hi0 hz0 hz1 hz2 (by omega) N (by omega)
  have hat0 := hid (ownq_made w 35 N (by omega))
  have HB0 := hid ((Below.refl w.heap.size w).alloc (Nat.le_refl _) (.cells (madeCells (Value.cells (.agg #[.int .i64 0, .int .i64 0])) (N * 2)) 35))
  have HL := hid hl
  have HO := hid ho
  clear ho hl
  go_enter Try.func62, Try.ntmps62
  go_wp2_with fail
  go_loopw [5, 6, 7, 8, 14] (fun _ _ _ _ i wr => ∃ (k : Nat) (o : List RatD), k ≤ N ∧ i = .int .i64 k ∧ Hid (quo m N k = some o) ∧ Hid (OwnQ wr w.heap.size 35 (.slice (some ⟨w.heap.size, 0, none⟩) N N) (padQ N o)) ∧ Hid (Below w.heap.size w wr) ∧ w.heap.size < wr.heap.size) (fun _ _ _ _ i _ => N - (intOf i).toNat)
  case atStart => exact ⟨0, [], Nat.zero_le _, rfl, hid rfl, hid (by rw [padQ_nil]; exact hat0.out), HB0, by simp⟩
  case round =>
    obtain ⟨k, o, hk, rfl, hqu, hown, hb, hwl⟩ := hrel
    clear hmk hat0 HB0
    have hol := hid (quo_len hqu.out)
    by_cases hlt : k < N
    · have hkl : k < m.length := by have := HL.out; omega
      have hNl : N < m[k].length := by rw [hrow.out k hkl]; omega
      have hkk : k < m[k].length := by rw [hrow.out k hkl]; omega
      have GW := hid (HO.out.below' hb.out)
      obtain ⟨bk, capk, hvk, hlb, hlc⟩ := row_block GW.out k hkl (by omega)
      have hck := (GW.out.cellAt k hkl).trans hvk
      rw [Nat.zero_add, hrow.out k hkl] at hck
      rw [hrow.out k hkl] at hvk
      obtain ⟨c0, c1, f0, f1⟩ := row_cells (row_own GW.out k hkl hvk) N hNl
      obtain ⟨d0, d1, g0, g1⟩ := row_cells (row_own GW.out k hkl hvk) k hkk
      have hx := (row_own GW.out k hkl hvk).2 N hNl
      have hy := (row_own GW.out k hkl hvk).2 k hkk
      have hbk := ((row_own GW.out k hkl hvk).lt bk rfl).2
      have hst := quo_step hqu.out hkl hNl hkk
      have A := hid (fun W => impl_divQ m[k][N] m[k][k] W hx.1 hx.2 hy.1 hy.2)
      have HO1 := hid hst.1
      have HO0 := hid hst.2
      have hib := hid (divQ_ib m[k][N] m[k][k])
      simp only [endQ_any] at A
      obtain ⟨z, hz⟩ : ∃ z, m[k][N] = z := ⟨_, rfl⟩
      obtain ⟨y, hy2⟩ : ∃ y, m[k][k] = y := ⟨_, rfl⟩
      rw [hz] at c0 c1
      rw [hy2] at d0 d1
      rw [hz, hy2] at A HO1 HO0 hib
      generalize fstQ (divQ z y) = X at A HO1 HO0 hib
      generalize sndQ (divQ z y) = Y at A HO1 HO0 hib
      generalize okQ (divQ z y) = ok at A HO1 HO0
      have hlt' : (k : Int) < (N : Int) := by omega
      have h0' : (0 : Int) ≤ (k : Int) := by omega
      have hN0 : (0 : Int) ≤ (N : Int) := by omega
      have hN1 : (N : Int) < (N : Int) + 1 := by omega
      have hk1 : (k : Int) < (N : Int) + 1 := by omega
      have hsz := hb.out.size
      have hk0 := kp_refl wr
      clear hst hx hy hz hy2 f0 f1 g0 g1 hvk
      go_upto_region 5 with fail
      go_cut [7, 8] (fun s8 s9 wx => ∃ g : Nat, s8 = .pointer (some ⟨g, 0, none⟩) ∧ s9 = .bool ok ∧ Has2 wx g (.int .i64 X) (.int .i64 Y) ∧ wr.heap.size ≤ g ∧ Kp wr 0 wx)
      case first =>
        go_region_held3 (fun w' => w'.cell? ⟨bk, N * 2, none⟩ = some (.int .i64 z.1) ∧ w'.cell? ⟨bk, N * 2 + 1, none⟩ = some (.int .i64 z.2) ∧ w'.cell? ⟨bk, k * 2, none⟩ = some (.int .i64 y.1) ∧ w'.cell? ⟨bk, k * 2 + 1, none⟩ = some (.int .i64 y.2) ∧ Kp wr 0 w')
          (first
              | (go_split_ands
                 repeat' apply And.intro
                 all_goals (first | (with_reducible assumption) | (with_reducible exact cell_drew (by assumption)) | (with_reducible exact Kp.drew (by assumption)) | (with_reducible exact Kp.cell (by assumption) hb1 (by omega) (by assumption)) | (with_reducible exact Kp.call (by assumption) hb1) | (with_reducible exact Kp.cell_alloc (by assumption) _ (by omega) (by assumption)) | (with_reducible exact Kp.alloc (by assumption) _) | (with_reducible exact Kp.cell_alloc_drew (by assumption) _ (by omega) (by assumption)) | (with_reducible exact Kp.alloc_drew (by assumption) _) | (with_reducible exact Kp.reall (by assumption) (by omega) _) | (with_reducible exact cell_realloc (by omega) (by assumption) _) | (with_reducible exact cell_set (by assumption) (by omega)) | (with_reducible exact Kp.set (by assumption) (by omega) _ _))))
          (first | (go_split_ands; go_at_call 95; (with_reducible refine (A.out _).mono ?_); rintro e w1 ⟨rfl, hb1⟩; have hz0 := hb1.size; (try simp only [World.size_alloc] at hz0); have hz1 : wr.heap.size ≤ w1.heap.size := (by have hk0 : Kp wr 0 _ := (by with_reducible assumption); have hk1 := hk0.sz; (try simp only [World.size_alloc] at hk1); omega); (try (first | (with_reducible have HN := hid (new2_kept hb1)) | (with_reducible have HN := hid (new2_kept_drew hb1)))); (try (obtain ⟨m0, m1, mz, m2, m3⟩ := HN.out))))
        all_goals
            go_wp2_with fail
            go_meet
            go_split_ands
            first
              | exact ⟨_, rfl, rfl, has2_new _ _ _ _, by omega, by with_reducible assumption⟩
              | exact ⟨_, rfl, rfl, has2_set HN.out, (by first | exact Nat.le_refl _ | omega), by with_reducible assumption⟩
      case rest =>
        obtain ⟨gs, rfl, rfl, hH, hgs, hkm⟩ := hcut
        obtain ⟨w1, rfl⟩ : ∃ wo : World, wo = wc := ⟨_, rfl⟩
        have s1 := hkm.sz
        have B1 := hid (hb.out.trans (hkm.bel.mono hsz))
        have O1 := hid (hown.out.below' hkm.bel)
        have N1 := hid (hasl_of2 hH)
        obtain ⟨n0, n1, n2, n3, n4⟩ := N1.out.two
        clear hH hkm hk0 A c0 c1 d0 d1 hown hb hck
        cases ok with
        | false =>
          have HN := hid (show quo m N N = none from quo_none (HO0.out (by first | rfl | trivial)) (show k + 1 ≤ N by omega))
          clear HO0 HO1 hqu hol
          go_wp2_with fail
          go_ret2
          exact ⟨none, 0, by rw [HN.out]; rfl, by rw [HN.out]; exact OwnQ.nil _ _ _, B1.out⟩
        | true =>
          have HM := hid (HO1.out (by first | rfl | trivial))
          have hpl := hid (padQ_len (n := N) (o := o) (by rw [hol.out]; omega))
          have hce := row_cells O1.out k (by rw [hpl.out]; exact hlt)
          obtain ⟨u0, e0⟩ : ∃ u, w1.cell? ⟨w.heap.size, k * 2, none⟩ = some u := ⟨_, hce.1⟩
          obtain ⟨u1, e1⟩ : ∃ u, w1.cell? ⟨w.heap.size, k * 2 + 1, none⟩ = some u := ⟨_, hce.2.1⟩
          have f0 := hce.2.2.1
          have f1 := hce.2.2.2
          have hst := ownq_set O1.out k (by rw [hpl.out]; exact hlt) (X, Y) hib.out
          have hps := padQ_step (n := N) (o := o) (by rw [hol.out]; exact hlt) (X, Y)
          rw [hol.out] at hps
          rw [hps] at hst
          have HO2 := hid hst
          have HB := hid ((B1.out.setCell (p := ⟨w.heap.size, k * 2, none⟩) (Nat.le_refl _) (.int .i64 X)).setCell (p := ⟨w.heap.size, k * 2 + 1, none⟩) (Nat.le_refl _) (.int .i64 Y))
          have hwl2 : w.heap.size < ((w1.setCell ⟨w.heap.size, k * 2, none⟩ (.int .i64 X)).setCell ⟨w.heap.size, k * 2 + 1, none⟩ (.int .i64 Y)).heap.size := by simp; omega
          clear HO0 HO1 hqu hol O1 hst hps hpl hib hce
          go_wp2_with fail
          go_roundw
          case rel => exact ⟨k + 1, _, by omega, by go_num, HM, HO2, HB, hwl2⟩
          case measure => simp [intOf]; omega
    · have hlt' : ¬ (k : Int) < (N : Int) := by omega
      have e : k = N := by omega
      subst e
      have HE := hown.out
      rw [padQ_all hol.out] at HE
      have hol2 := hol.out
      have HE2 := hid (show OwnQ wr w.heap.size 35 (.slice (some ⟨w.heap.size, 0, none⟩) o.length k) o by rw [hol2]; exact HE)
      have HM := hid hqu.out
      have HLL := hid hol2
      clear hown HE hol hol2 hqu
      go_wp2_with fail
      go_ret2
      exact ⟨some ⟨w.heap.size, 0, none⟩, k, by rw [HM.out]; simp [lstO, okO, HLL.out], by rw [HM.out]; exact HE2.out, hb.out⟩
end Go.Proofs.Ytjnphlgmmjdeiaa.SolQ
