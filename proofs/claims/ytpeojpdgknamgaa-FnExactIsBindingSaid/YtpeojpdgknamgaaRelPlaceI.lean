/- A row's place in a relation (impl.findRow over the library's slices.BinarySearchFunc), and ContainsRow, the program's and the model's. -/
import Derived.Test.YtpeojpdgknamgaaRelValidI
import Derived.Test.YtpeojpdgknamgaaRelPlaceS
namespace Go.Proofs.Ytpeojpdgknamgaa.RelPlaceI
open Go.RowKit
open Go.Proofs.Ytpeojpdgknamgaa.Num Go.Proofs.Ytpeojpdgknamgaa.IntRow Go.Proofs.Ytpeojpdgknamgaa.Vals Go.Proofs.Ytpeojpdgknamgaa.Grid Go.Proofs.Ytpeojpdgknamgaa.CmpL Go.Proofs.Ytpeojpdgknamgaa.RowCmp Go.Proofs.Ytpeojpdgknamgaa.Asc Go.Proofs.Ytpeojpdgknamgaa.Cells Go.Proofs.Ytpeojpdgknamgaa.RelValidS Go.Proofs.Ytpeojpdgknamgaa.RelValidI Go.Proofs.Ytpeojpdgknamgaa.RelPlaceS
set_option linter.unusedVariables false

/-- What the search finds: p is the row's place where the rows ascend; b: the row stands there. -/
structure Fnd (xss : List (List Int)) (r : List Int) (p : Nat) (b : Bool) : Prop where
  le : p ≤ xss.length
  place : Asc xss → Pl xss r p
  hit : b = true ↔ ∃ h : p < xss.length, xss[p] = r
theorem Fnd.mem {xss : List (List Int)} {r : List Int} {p : Nat} {b : Bool} (h : Fnd xss r p b) (ha : Asc xss) : b = decide (r ∈ xss) := by
  rw [Bool.eq_iff_iff, h.hit, decide_eq_true_iff]
  exact ((h.place ha).mem ha).symm
theorem Fnd.both {xss : List (List Int)} {r : List Int} {p : Nat} {b : Bool} (n : Int) (h : Fnd xss r p b) : (vrel n xss && decide (r ∈ xss)) = (b && vrel n xss) := by
  cases hv : vrel n xss with
  | false => simp
  | true => rw [h.mem (vrel_parts hv).2.2.2]; simp

set_option maxRecDepth 100000 in
theorem lib_search (a ar : Option Addr) (cap capr len B B' : Nat) (xss : List (List Int)) (r : List Int) (w : World) (hl : xss.length = len) (hlen : len ≤ 1048576) (hx : ∀ j (h : j < xss.length), xss[j].length ≤ 1048576) (hr : r.length ≤ 1048576) (h : GRd w B a xss) (h' : Rd w B' ar r) :
    Calls Try.prog 89 #[.slice a len cap, .slice ar r.length capr, .func (.func 65) #[] #[]] w fun e w' => ∃ (p : Nat) (b : Bool), e = .returned (.tuple #[.int .i64 (p : Nat), .bool b]) ∧ Fnd xss r p b ∧ w = w' := by
  have HG := hid h
  have HR := hid h'
  clear h h'
  go_enter Try.func89, Try.ntmps89
  go_wp2
  go_loop [9, 10, 11] (fun l q _ => ∃ lo hi : Nat, l = .int .i64 lo ∧ q = .int .i64 hi ∧ lo ≤ hi ∧ hi ≤ len ∧ Hid (Asc xss → RelPlaceS.Way xss r lo hi)) (fun l q _ => (intOf q).toNat - (intOf l).toNat)
  case atStart => exact ⟨0, len, rfl, rfl, Nat.zero_le _, Nat.le_refl _, hid (fun _ => by rw [← hl]; exact RelPlaceS.Way.start _ _)⟩
  case round =>
    obtain ⟨lo, hi, rfl, rfl, hlh, hhl, hway⟩ := hrel
    by_cases hlt : lo < hi
    · obtain ⟨m, hm⟩ : ∃ m, m = (lo + hi) / 2 := ⟨_, rfl⟩
      have hm1 : lo ≤ m := by omega
      have hm2 : m < hi := by omega
      have hmx : m < xss.length := by omega
      obtain ⟨b, off, rfl, hbB, hc⟩ := HG.out (by omega)
      obtain ⟨aj, capj, g, rj⟩ := hc m hmx
      have hxm := hx m hmx
      obtain ⟨c, hcc⟩ : ∃ c, cmpL xss[m] r = c := ⟨_, rfl⟩
      have E := hid (by
        have := impl_cmp aj ar capj capr B B' xss[m] r w hxm hr rj HR.out
        rw [hcc] at this
        exact this)
      have HC := hid hcc
      have e1 : ((lo : Int) + (hi : Int)) / 2 = (m : Int) := by omega
      have hlt' : (lo : Int) < (hi : Int) := by omega
      have hm0 : (0 : Int) ≤ (m : Int) := by omega
      have hml : (m : Int) < (len : Int) := by omega
      clear hc hx hcc rj hm
      by_cases hneg : c < 0
      · have HW := hid (show Asc xss → RelPlaceS.Way xss r (m + 1) hi from fun ha => (hway.out ha).right ha hm1 hm2 (by rw [HC.out]; exact hneg))
        go_wp2_with fail
        refine E.out.mono ?_
        rintro e w2 ⟨rfl, rfl⟩
        go_wp2
        go_round
        case rel => exact ⟨m + 1, hi, by go_num, rfl, by omega, by omega, HW⟩
        case measure => simp [intOf]; omega
      · have HW := hid (show Asc xss → RelPlaceS.Way xss r lo m from fun ha => (hway.out ha).left ha hm1 hm2 (by rw [HC.out]; exact hneg))
        go_wp2_with fail
        refine E.out.mono ?_
        rintro e w2 ⟨rfl, rfl⟩
        go_wp2
        go_round
        case rel => exact ⟨lo, m, rfl, by go_num, by omega, by omega, HW⟩
        case measure => simp [intOf]; omega
    · have e : hi = lo := by omega
      subst e
      have HP := hid (show Asc xss → Pl xss r hi from fun ha => (hway.out ha).done)
      by_cases hpl : hi < len
      · have hmx : hi < xss.length := by omega
        obtain ⟨b, off, rfl, hbB, hc⟩ := HG.out (by omega)
        obtain ⟨aj, capj, g, rj⟩ := hc hi hmx
        have hxm := hx hi hmx
        obtain ⟨c, hcc⟩ : ∃ c, cmpL xss[hi] r = c := ⟨_, rfl⟩
        have E := hid (by
          have := impl_cmp aj ar capj capr B B' xss[hi] r w hxm hr rj HR.out
          rw [hcc] at this
          exact this)
        have HF := hid (show Fnd xss r hi (c == 0) from ⟨by omega, HP.out, by
          constructor
          · intro h0
            exact ⟨hmx, cmpL_zero (hcc.trans (by simpa using h0))⟩
          · rintro ⟨_, e2⟩
            rw [e2, cmpL_self] at hcc
            simp [← hcc]⟩)
        have hpl' : (hi : Int) < (len : Int) := by omega
        have hm0 : (0 : Int) ≤ (hi : Int) := by omega
        clear hc hx hcc rj
        go_wp2_with fail
        refine E.out.mono ?_
        rintro e w2 ⟨rfl, rfl⟩
        go_wp2
        go_ret2
        exact ⟨hi, c == 0, rfl, HF.out, rfl⟩
      · have HF := hid (show Fnd xss r hi false from ⟨by omega, HP.out, by
          constructor
          · intro h0; cases h0
          · rintro ⟨h2, _⟩
            omega⟩)
        have hpl' : ¬ (hi : Int) < (len : Int) := by omega
        clear hx
        go_wp2
        go_ret2
        exact ⟨hi, .inl ⟨rfl, HF.out, rfl⟩⟩

theorem impl_find (n : Int) (a ar : Option Addr) (cap capr len B B' : Nat) (xss : List (List Int)) (r : List Int) (w : World) (hl : xss.length = len) (hlen : len ≤ 1048576) (hx : ∀ j (h : j < xss.length), xss[j].length ≤ 1048576) (hr : r.length ≤ 1048576) (h : GRd w B a xss) (h' : Rd w B' ar r) (hB : B ≤ w.heap.size) (hB' : B' ≤ w.heap.size) :
    Calls Try.prog 60 #[.agg #[.int .i64 n, .slice a len cap], .slice ar r.length capr] w fun e w' => ∃ (p : Nat) (b : Bool), e = .returned (.tuple #[.int .i64 (p : Nat), .bool b]) ∧ Fnd xss r p b ∧ Below w.heap.size w w' := by
  have B1 := hid ((Below.refl w.heap.size w).alloc (Nat.le_refl _) (.cells #[.int .i64 n, .slice a len cap] 27))
  have S := hid (lib_search a ar cap capr len B B' xss r _ hl hlen hx hr (h.below (B1.out.mono hB)) (h'.below (B1.out.mono hB')))
  clear h h' hx
  go_enter Try.func60, Try.ntmps60
  go_wp2_with fail
  refine S.out.mono ?_
  rintro e w2 ⟨p, b, rfl, hf, rfl⟩
  have HF := hid hf
  clear hf
  go_wp2
  go_ret2
  exact ⟨p, b, rfl, HF.out, B1.out⟩

theorem spec_contains (n : Int) (a ar : Option Addr) (cap capr len B B' : Nat) (xss : List (List Int)) (r : List Int) (w : World) (hl : xss.length = len) (hlen : len ≤ 1048576) (hx : ∀ j (h : j < xss.length), xss[j].length ≤ 1048576) (hr : r.length ≤ 1048576) (h : GRd w B a xss) (h' : Rd w B' ar r) (hB : B ≤ w.heap.size) (hB' : B' ≤ w.heap.size) :
    Calls Try.prog 59 #[.agg #[.int .i64 n, .slice a len cap], .slice ar r.length capr] w fun e w' => e = .returned (.bool (vrel n xss && decide (r ∈ xss))) ∧ Below w.heap.size w w' := by
  have K1 := hid (has2_new w (.int .i64 n) (.slice a len cap) 27)
  have B1 := hid ((Below.refl w.heap.size w).alloc (Nat.le_refl _) (.cells #[.int .i64 n, .slice a len cap] 27))
  have V := hid (spec_valid n a len cap B xss _ hl hlen hx (h.below (B1.out.mono hB)) (by have := B1.out.size; omega))
  have HG := hid h
  have HR := hid h'
  clear h h'
  obtain ⟨v, hv⟩ : ∃ v, vrel n xss = v := ⟨_, rfl⟩
  rw [hv] at V ⊢
  go_enter Try.func59, Try.ntmps59
  go_wp2_with fail
  refine V.out.mono ?_
  rintro e w2 ⟨rfl, hb⟩
  replace K1 := hid (K1.out.below hb)
  have B2 := hid (B1.out.trans (hb.mono B1.out.size))
  obtain ⟨k0, k1, k2, _, _⟩ := K1.out
  clear hb V
  cases v with
  | false =>
    go_wp2
    go_ret
    exact ⟨rfl, B2.out⟩
  | true =>
    obtain ⟨_, h4, _, ha⟩ := vrel_parts hv
    go_wp2_with fail
    refine (spec_place n a ar cap capr len B B' xss r _ hl (by omega) hx hr ha (HG.out.below (B2.out.mono hB)) (HR.out.below (B2.out.mono hB')) (by have := B2.out.size; omega) (by have := B2.out.size; omega)).mono ?_
    rintro e w3 ⟨p, rfl, _, hb⟩
    have B3 := hid (B2.out.trans (hb.mono B2.out.size))
    clear hb
    go_wp2
    go_ret
    exact ⟨by simp, B3.out⟩
end Go.Proofs.Ytpeojpdgknamgaa.RelPlaceI
