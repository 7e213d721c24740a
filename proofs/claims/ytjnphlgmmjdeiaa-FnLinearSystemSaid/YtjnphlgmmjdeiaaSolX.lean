/- Two rows of a matrix change their places; the program's search for a pivot. -/
import Derived.Test.YtjnphlgmmjdeiaaSolI
namespace Go.Proofs.Ytjnphlgmmjdeiaa.SolX
open Go.RowKit
open Go.Proofs.Ytjnphlgmmjdeiaa.Num Go.Proofs.Ytjnphlgmmjdeiaa.IntRow Go.Proofs.Ytjnphlgmmjdeiaa.GridMore Go.Proofs.Ytjnphlgmmjdeiaa.Rdr Go.Proofs.Ytjnphlgmmjdeiaa.HasL Go.Proofs.Ytjnphlgmmjdeiaa.Rats Go.Proofs.Ytjnphlgmmjdeiaa.RatRow Go.Proofs.Ytjnphlgmmjdeiaa.RatOwn Go.Proofs.Ytjnphlgmmjdeiaa.GridQ Go.Proofs.Ytjnphlgmmjdeiaa.GridQ2 Go.Proofs.Ytjnphlgmmjdeiaa.RatsSS Go.Proofs.Ytjnphlgmmjdeiaa.SolP Go.Proofs.Ytjnphlgmmjdeiaa.Keep Go.Proofs.Ytjnphlgmmjdeiaa.Kept Go.Proofs.Ytjnphlgmmjdeiaa.Cells
set_option linter.unusedVariables false

def sg (p q i : Nat) : Nat := if i = q then p else if i = p then q else i
theorem sg_inj {p q i k : Nat} (h : i ≠ k) : sg p q i ≠ sg p q k := by unfold sg; split <;> split <;> (try split) <;> (try split) <;> omega
theorem sg_lt {p q i n : Nat} (hp : p < n) (hq : q < n) (hi : i < n) : sg p q i < n := by unfold sg; split <;> (try split) <;> omega
theorem set_sg {α : Type} (xs : List α) (p q i : Nat) (hp : p < xs.length) (hq : q < xs.length) : ((xs.set p xs[q]).set q xs[p])[i]? = xs[sg p q i]? := by
  unfold sg
  by_cases h1 : i = q
  · subst h1
    rw [if_pos rfl, List.getElem?_set_self (by simpa using hq), List.getElem?_eq_getElem hp]
  · rw [if_neg h1, List.getElem?_set_ne (fun e => h1 e.symm)]
    by_cases h2 : i = p
    · subst h2
      rw [if_pos rfl, List.getElem?_set_self hp, List.getElem?_eq_getElem hq]
    · rw [if_neg h2, List.getElem?_set_ne (fun e => h2 e.symm)]
theorem gownq_swap {w : World} {lo g cap n : Nat} {eR eI : TypeId} {vs : List Value} {xss : List (List RatD)} (h : GOwnQ w lo eR eI (.slice (some ⟨g, 0, none⟩) n cap) vs xss) (hn : n = xss.length) (hne : eR ≠ eI) (p q : Nat) (hp : p < xss.length) (hq : q < xss.length) (u v : Value) (hu : vs[p]? = some u) (hv : vs[q]? = some v) :
    GOwnQ ((w.setCell ⟨g, p, none⟩ v).setCell ⟨g, q, none⟩ u) lo eR eI (.slice (some ⟨g, 0, none⟩) n cap) ((vs.set p v).set q u) (swp xss p q) := by
  subst hn
  have hpv : p < vs.length := by rw [h.len]; exact hp
  have hqv : q < vs.length := by rw [h.len]; exact hq
  have eu : u = vs[p] := by rw [List.getElem?_eq_getElem hpv] at hu; exact (Option.some.inj hu).symm
  have ev : v = vs[q] := by rw [List.getElem?_eq_getElem hqv] at hv; exact (Option.some.inj hv).symm
  have hsw : swp xss p q = (xss.set p xss[q]).set q xss[p] := by unfold swp; rw [List.getD_eq_getElem?_getD, List.getElem?_eq_getElem hq, List.getD_eq_getElem?_getD, List.getElem?_eq_getElem hp]; rfl
  have s1 := World.ownsRow.stored h.row p v
  have s2 := World.ownsRow.stored s1.1 q u
  have hg := grown_trans s1.2 s2.2
  have hvs : ∀ i, ((vs.set p v).set q u)[i]? = vs[sg p q i]? := fun i => by rw [eu, ev]; exact set_sg vs p q i hpv hqv
  rw [hsw]
  refine ⟨by simp [h.len], by simpa using s2.1, fun i hi u2 hu2 => ?_, fun i k a b m hik ha hb hm => ?_⟩
  · have hi' : i < xss.length := by simpa using hi
    have hl := sg_lt hp hq hi'
    rw [hvs] at hu2
    have hx : ((xss.set p xss[q]).set q xss[p])[i] = xss[sg p q i] := by
      have := set_sg xss p q i hp hq
      rw [List.getElem?_eq_getElem hi, List.getElem?_eq_getElem hl] at this
      exact Option.some.inj this
    rw [hx]
    exact (h.own _ hl u2 hu2).grown hg (fun k hk e => h.far hne hu2 hk e)
  · rw [hvs] at ha hb
    exact h.apart _ _ a b m (sg_inj hik) ha hb hm
theorem piv_some {m : List (List RatD)} {p c k : Nat} (hn : ((m.getD k []).getD p (0, 0)).1 ≠ 0) : piv m p (c + 1) k = some k := by rw [piv, if_neg hn]
theorem piv_next {m : List (List RatD)} {p c k : Nat} (hz : ((m.getD k []).getD p (0, 0)).1 = 0) : piv m p (c + 1) k = piv m p c (k + 1) := by rw [piv, if_pos hz]

set_option maxRecDepth 100000 in
set_option maxHeartbeats 1000000 in
theorem impl_exch (g cap p N : Nat) (vs : List Value) (xss : MatD) (w : World) (lo : Nat) (hN : N ≤ 100) (hp : p ≤ N) (hl : xss.length = N) (hrow : Hid (∀ j (hj : j < xss.length), xss[j].length = N + 1)) (ho : GOwnQ w lo tQ tR (.slice (some ⟨g, 0, none⟩) N cap) vs xss) :
    Calls Try.prog 60 #[.slice (some ⟨g, 0, none⟩) N cap, .int .i64 p] w fun e w' => e = .returned (.bool (piv xss p (N - p) p).isSome) ∧ (∀ k, piv xss p (N - p) p = some k → k < N ∧ ∃ vs', GOwnQ w' lo tQ tR (.slice (some ⟨g, 0, none⟩) N cap) vs' (swp xss p k)) ∧ w.grownBy w' (some g) := by
  have HL := hid hl
  have HO := hid ho
  clear ho hl
  go_enter Try.func60, Try.ntmps60
  go_wp2_with fail
  go_loopw [5] (fun i wr => ∃ k : Nat, p ≤ k ∧ k ≤ N ∧ i = .int .i64 k ∧ w = wr ∧ Hid (piv xss p (N - p) p = piv xss p (N - k) k)) (fun i _ => N - (intOf i).toNat)
  case atStart => exact ⟨p, Nat.le_refl _, hp, rfl, rfl, hid rfl⟩
  case round =>
    obtain ⟨k, hpk, hk, rfl, rfl, hpv⟩ := hrel
    by_cases hlt : k < N
    · have hkl : k < xss.length := by have := HL.out; omega
      have hpl : p < xss[k].length := by rw [hrow.out k hkl]; omega
      obtain ⟨bk, capk, hvk, hlb, hlc⟩ := row_block HO.out k hkl (by omega)
      have hck := (HO.out.cellAt k hkl).trans hvk
      rw [Nat.zero_add, hrow.out k hkl] at hck
      rw [hrow.out k hkl] at hvk
      obtain ⟨c0, c1, f0, f1⟩ := row_cells (row_own HO.out k hkl hvk) p hpl
      have hlt' : (k : Int) < (N : Int) := by omega
      have h0' : (0 : Int) ≤ (k : Int) := by omega
      have hp0 : (0 : Int) ≤ (p : Int) := by omega
      have hpN : (p : Int) < ((N + 1 : Nat) : Int) := by omega
      have hpN1 : (p : Int) < (N : Int) + 1 := by omega
      have hN1 : N - k = (N - (k + 1)) + 1 := by omega
      have hget : (xss.getD k []).getD p (0, 0) = xss[k][p] := by
        have e1 : xss.getD k [] = xss[k] := by rw [List.getD_eq_getElem?_getD, List.getElem?_eq_getElem hkl]; rfl
        rw [e1, List.getD_eq_getElem?_getD, List.getElem?_eq_getElem hpl]; rfl
      have HGET := hid hget
      have HVK := hid hvk
      clear hget hvk f0 f1 c1
      by_cases hz : xss[k][p].1 = 0
      · have hq : (xss[k][p].1 != 0) = false := by simp [hz]
        have HN := hid (hpv.out.trans (show piv xss p (N - k) k = piv xss p (N - (k + 1)) (k + 1) by rw [hN1]; exact piv_next (by rw [HGET.out]; exact hz)))
        clear hz hpv
        go_wp2_with fail
        go_roundw
        case rel => exact ⟨k + 1, by omega, by omega, by go_num, by first | rfl | trivial, HN⟩
        case measure => simp [intOf]; omega
      · have hq : (xss[k][p].1 != 0) = true := by simp [hz]
        have HN := hid (hpv.out.trans (show piv xss p (N - k) k = some k by rw [hN1]; exact piv_some (by rw [HGET.out]; exact hz)))
        have hpx : p < xss.length := by have := HL.out; omega
        obtain ⟨ap, capp, hvp, hlp⟩ := row_head HO.out p hpx
        have hcp := (HO.out.cellAt p hpx).trans hvp
        rw [Nat.zero_add, hrow.out p hpx] at hcp
        rw [hrow.out p hpx] at hvp
        have SW0 := gownq_swap HO.out HL.out.symm tQR p k hpx hkl _ _ hvp HVK.out
        have SW := hid (show GOwnQ ((w.setCell ⟨g, p, none⟩ (.slice (some ⟨bk, 0, none⟩) (N + 1) capk)).drew.setCell ⟨g, k, none⟩ (.slice ap (N + 1) capp)) lo tQ tR (.slice (some ⟨g, 0, none⟩) N cap) _ (swp xss p k) from SW0.drew)
        clear SW0
        have hfp := HO.out.free p
        have hfk := HO.out.free k
        rw [Nat.zero_add] at hfp hfk
        have hpN2 : (p : Int) < (N : Int) := by omega
        have hgl := (HO.out.lt g rfl).2
        have GW := hid (show w.grownBy ((w.setCell ⟨g, p, none⟩ (.slice (some ⟨bk, 0, none⟩) (N + 1) capk)).drew.setCell ⟨g, k, none⟩ (.slice ap (N + 1) capp)) (some g) from ⟨rfl, rfl, rfl, by simp, fun i hi hr => by
          have hi' : i ≠ g := fun e => hr (by rw [e])
          rw [Below.heap_setCell _ _ _ _ (by simpa using hi')]
          show (w.setCell ⟨g, p, none⟩ (.slice (some ⟨bk, 0, none⟩) (N + 1) capk)).heap[i]? = w.heap[i]?
          rw [Below.heap_setCell _ _ _ _ (by simpa using hi')]⟩)
        obtain ⟨x2, e2⟩ : ∃ x2, (w.setCell ⟨g, p, none⟩ (.slice (some ⟨bk, 0, none⟩) (N + 1) capk)).drew.cell? ⟨g, k, none⟩ = some x2 := by
          by_cases e : p = k
          · subst e; exact ⟨_, World.cell?_setCell_same _ _ _ hcp⟩
          · exact ⟨_, (World.cell?_setCell_other _ _ _ _ (by first | (simp; done) | (simp; omega))).trans hck⟩
        have f2 : (w.setCell ⟨g, p, none⟩ (.slice (some ⟨bk, 0, none⟩) (N + 1) capk)).drew.frozen? ⟨g, k, none⟩ = false := by show (w.setCell ⟨g, p, none⟩ (.slice (some ⟨bk, 0, none⟩) (N + 1) capk)).frozen? ⟨g, k, none⟩ = false; rw [World.frozen?_setCell]; exact hfk
        clear hz hpv hvp
        go_wp2
        go_region_law (first | fail)
        all_goals
          go_wp2_with fail
          go_ret
          exact ⟨by rw [HN.out]; rfl, fun k' hk' => (by rw [HN.out] at hk'; have e := Option.some.inj hk'; subst e; exact ⟨hlt, _, SW.out⟩), GW.out⟩
    · have hlt' : ¬ (k : Int) < (N : Int) := by omega
      have e : k = N := by omega
      subst e
      have HN := hid (show piv xss p (k - p) p = none by rw [hpv.out, Nat.sub_self]; rfl)
      clear hpv
      go_wp2_with fail
      go_ret
      exact ⟨by rw [HN.out]; rfl, fun k' hk' => (by rw [HN.out] at hk'; cases hk'), World.grownBy.refl _ _⟩
end Go.Proofs.Ytjnphlgmmjdeiaa.SolX
