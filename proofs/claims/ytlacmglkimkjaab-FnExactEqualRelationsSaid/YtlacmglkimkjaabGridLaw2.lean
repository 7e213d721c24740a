/- Contracts of the laws' own helpers that make and mark grids. -/
import Derived.Test.YtlacmglkimkjaabGridLaw
import Derived.Test.YtlacmglkimkjaabGridMore
namespace Go.Proofs.Ytlacmglkimkjaab.GridLaw2
open Go.RowKit
open Go.Proofs.Ytlacmglkimkjaab.Num Go.Proofs.Ytlacmglkimkjaab.IntRow Go.Proofs.Ytlacmglkimkjaab.IntLaw Go.Proofs.Ytlacmglkimkjaab.Grid Go.Proofs.Ytlacmglkimkjaab.GridMore Go.Proofs.Ytlacmglkimkjaab.GridLaw Go.Proofs.Ytlacmglkimkjaab.Keep Go.Proofs.Ytlacmglkimkjaab.Kept
set_option linter.unusedVariables false

abbrev eR : TypeId := 32
abbrev eI : TypeId := 3
theorem eRI : eR ≠ eI := by decide

/-- A copy of a grid: a grid of the call's own. -/
theorem to_ss (a : Option Addr) (cap B : Nat) (xss : List (List Int)) (w : World) (hn : tot xss ≤ 1048576) (h : GRd w B a xss) (hB : B ≤ w.heap.size) :
    Calls Try.prog 11 #[.slice a xss.length cap] w fun e w' => ∃ vs, e = .returned (.slice (some ⟨w.heap.size, 0, none⟩) xss.length xss.length) ∧ GOwn w' w.heap.size eR eI (.slice (some ⟨w.heap.size, 0, none⟩) xss.length xss.length) vs xss ∧ Below w.heap.size w w' := by
  have hn1 : xss.length ≤ 1048576 := by have := tot_len xss; omega
  obtain ⟨i0, hi, hz0, hz1, hz2⟩ := info_parts GridLaw.info
  have hmk := make_rows (P := Try.prog) w 22 32 i0 Try.underlying22 hi hz0 hz1 hz2 xss.length (by omega)
  have hat0 := hid (rows_made w 32 3 xss.length (by omega))
  go_enter Try.func11, Try.ntmps11
  go_wp2
  go_loopw [4] (fun i wr => ∃ (k : Nat) (vs : List Value), k ≤ xss.length ∧ i = .int .i64 k ∧ Hid (GOwn wr w.heap.size eR eI (.slice (some ⟨w.heap.size, 0, none⟩) xss.length xss.length) vs (filledS xss k)) ∧ Hid (Below w.heap.size w wr)) (fun i _ => xss.length - (intOf i).toNat)
  case atStart => exact ⟨0, _, Nat.zero_le _, rfl, hid (by rw [filledS_zero]; exact hat0.out), hid ((Below.refl _ _).alloc (Nat.le_refl _) _)⟩
  case round =>
    obtain ⟨k, vs, hk, rfl, hown, hb⟩ := hrel
    have hfl := filledS_length xss k hk
    clear hmk
    by_cases hlt : k < xss.length
    · obtain ⟨b, off, rfl, hbB, hc⟩ := (h.below (hb.out.mono hB)) (by omega)
      obtain ⟨aj, capj, g, r⟩ := hc k hlt
      have hrow : xss[k].length ≤ 1048576 := by have := row_le xss k hlt; omega
      have hsz := hb.out.size
      have T := hid (to_ints aj capj B xss[k] wr hrow r (by omega))
      clear hc h r
      go_wp2_with fail
      refine T.out.mono ?_
      rintro e w1 ⟨rfl, hat, hb1⟩
      have O1 := hown.out.below' hb1
      have hlt1 := hown.out.lt w.heap.size rfl
      have U := hat.own (Nat.le_refl _)
      have hst := hid (gown_store O1 hfl.symm eRI k (by omega) (U.mono hsz) (fun i u' m hne hu hm hm' => by
        have h1 := (hown.out.lt_row hu m hm').2
        simp [Value.ownBlock] at hm
        omega))
      rw [filledS_step xss k hlt] at hst
      obtain ⟨u, c1⟩ : ∃ u, w1.cell? ⟨w.heap.size, k, none⟩ = some u := by
        have hjv : k < vs.length := by rw [hown.out.len, filledS_length xss k hk]; exact hlt
        have hca := O1.cellAt k (by rw [filledS_length xss k hk]; exact hlt)
        rw [Nat.zero_add, List.getElem?_eq_getElem hjv] at hca
        exact ⟨_, hca⟩
      have c2 := O1.free k
      rw [Nat.zero_add] at c2
      have HB := hid ((hb.out.trans (hb1.mono hsz)).setCell (p := ⟨w.heap.size, k, none⟩) (Nat.le_refl _) (.slice (some ⟨wr.heap.size, 0, none⟩) xss[k].length xss[k].length))
      clear O1 U hat hb1 hfl
      go_wp2_with fail
      go_roundw
      case rel => exact ⟨k + 1, _, by omega, by go_num, hst, HB⟩
      case measure => simp [intOf]; omega
    · have e : k = xss.length := by omega
      subst e
      have HO := hown.out
      rw [filledS_all] at HO
      have HO2 := hid HO
      clear h HO hfl hown
      go_wp2
      go_ret
      exact ⟨vs, rfl, HO2.out, hb.out⟩

end Go.Proofs.Ytlacmglkimkjaab.GridLaw2
