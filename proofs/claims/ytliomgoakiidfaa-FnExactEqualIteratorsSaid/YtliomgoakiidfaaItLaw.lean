/- Iterators of tries: read, made; contracts of the laws' own helpers on them: sizes, copies, equality, marks. -/
import Derived.Test.YtliomgoakiidfaaTrieLaw
import Derived.Test.YtliomgoakiidfaaRelKit
import Derived.Test.YtliomgoakiidfaaHasL
import Derived.Test.YtliomgoakiidfaaRdr
namespace Go.Proofs.Ytliomgoakiidfaa.ItLaw
open Go.RowKit
open Go.Proofs.Ytliomgoakiidfaa.Num Go.Proofs.Ytliomgoakiidfaa.IntRow Go.Proofs.Ytliomgoakiidfaa.IntLaw Go.Proofs.Ytliomgoakiidfaa.Grid Go.Proofs.Ytliomgoakiidfaa.GridMore Go.Proofs.Ytliomgoakiidfaa.GridLaw Go.Proofs.Ytliomgoakiidfaa.GridLaw2 Go.Proofs.Ytliomgoakiidfaa.TrieLaw Go.Proofs.Ytliomgoakiidfaa.Keep Go.Proofs.Ytliomgoakiidfaa.Kept Go.Proofs.Ytliomgoakiidfaa.Cells Go.Proofs.Ytliomgoakiidfaa.RelKit Go.Proofs.Ytliomgoakiidfaa.HasL Go.Proofs.Ytliomgoakiidfaa.Rdr
set_option linter.unusedVariables false

theorem five {w : World} {b : Nat} {x0 x1 x2 x3 x4 : Value} (h : HasL w b [x0, x1, x2, x3, x4]) : w.cell? ⟨b, 0, none⟩ = some x0 ∧ w.cell? ⟨b, 1, none⟩ = some x1 ∧ w.cell? ⟨b, 2, none⟩ = some x2 ∧ w.cell? ⟨b, 3, none⟩ = some x3 ∧ w.cell? ⟨b, 4, none⟩ = some x4 ∧ w.frozen? ⟨b, 0, none⟩ = false ∧ w.frozen? ⟨b, 1, none⟩ = false ∧ w.frozen? ⟨b, 2, none⟩ = false ∧ w.frozen? ⟨b, 3, none⟩ = false ∧ w.frozen? ⟨b, 4, none⟩ = false ∧ b < w.heap.size :=
  ⟨(h.2 0 (by simp)).1, (h.2 1 (by simp)).1, (h.2 2 (by simp)).1, (h.2 3 (by simp)).1, (h.2 4 (by simp)).1, (h.2 0 (by simp)).2, (h.2 1 (by simp)).2, (h.2 2 (by simp)).2, (h.2 3 (by simp)).2, (h.2 4 (by simp)).2, h.1⟩

theorem hasl_turned {lo hi b : Nat} {w w' : World} {vs : List Value} (h : HasL w b vs) (t : Turn lo hi w w') (hb : b < lo ∨ hi ≤ b) : HasL w' b vs :=
  ⟨Nat.lt_of_lt_of_le h.1 t.size, fun i hi' => ⟨(World.cell?_of_block (w := w) (a := ⟨b, i, none⟩) (t.block b h.1 hb)).trans (h.2 i hi').1, (World.frozen?_of_block (w := w) (a := ⟨b, i, none⟩) (t.block b h.1 hb)).trans (h.2 i hi').2⟩⟩

/-- An iterator that is read: its rows and lists lie below block B, each slice within its capacity. -/
structure ItRd (w : World) (B : Nat) (a l h p : Option Addr) (cap capl caph capp : Nat) (xss : List (List Int)) (L H P : List Int) : Prop where
  t : GRd w B a xss
  l : Rd w B l L
  h : Rd w B h H
  p : Rd w B p P
  ct : xss.length ≤ cap
  cl : L.length ≤ capl
  ch : H.length ≤ caph
  cp : P.length ≤ capp
theorem ItRd.below {w w' : World} {B : Nat} {a l h p : Option Addr} {cap capl caph capp : Nat} {xss : List (List Int)} {L H P : List Int} (r : ItRd w B a l h p cap capl caph capp xss L H P) (hb : Below B w w') : ItRd w' B a l h p cap capl caph capp xss L H P :=
  ⟨r.t.below hb, r.l.below hb, r.h.below hb, r.p.below hb, r.ct, r.cl, r.ch, r.cp⟩
theorem ItRd.mono {w : World} {B B' : Nat} {a l h p : Option Addr} {cap capl caph capp : Nat} {xss : List (List Int)} {L H P : List Int} (r : ItRd w B a l h p cap capl caph capp xss L H P) (hb : B ≤ B') : ItRd w B' a l h p cap capl caph capp xss L H P :=
  ⟨r.t.mono hb, r.l.mono hb, r.h.mono hb, r.p.mono hb, r.ct, r.cl, r.ch, r.cp⟩
theorem ItRd.kp {w w' : World} {B n : Nat} {a l h p : Option Addr} {cap capl caph capp : Nat} {xss : List (List Int)} {L H P : List Int} (r : ItRd w B a l h p cap capl caph capp xss L H P) (k : Kp w n w') (hB : B ≤ w.heap.size) : ItRd w' B a l h p cap capl caph capp xss L H P := r.below (k.bel.mono hB)
def szI (xss : List (List Int)) (L H P : List Int) : Nat := tot xss + L.length + H.length + P.length
theorem szI_parts {xss : List (List Int)} {L H P : List Int} (h : szI xss L H P ≤ 1048576) : tot xss ≤ 1048576 ∧ xss.length ≤ 1048576 ∧ (∀ j (h : j < xss.length), xss[j].length ≤ 1048576) ∧ L.length ≤ 1048576 ∧ H.length ≤ 1048576 ∧ P.length ≤ 1048576 ∧ ints xss ≤ 1048576 ∧ ints xss + L.length + H.length + P.length ≤ 1048576 := by
  have h1 : tot xss ≤ 1048576 := by unfold szI at h; omega
  have h2 := ints_le xss
  exact ⟨h1, len_le h1, each_le h1, by unfold szI at h; omega, by unfold szI at h; omega, by unfold szI at h; omega, by omega, by unfold szI at h; omega⟩

/-! ### arguments -/
abbrev ItD := (Int × List (List Int)) × (List Int × (List Int × List Int))
def rIt : Reader ItD := rTwo (rTwo rInt (rSl 1 (rSl 1 rInt))) (rTwo (rSl 1 rInt) (rTwo (rSl 1 rInt) (rSl 1 rInt)))
section
variable {Q : Program}
theorem opn_struct4 {α β γ δ : Type} {R : Reader α} {S : Reader β} {T : Reader γ} {U : Reader δ} {t : TypeId} {f0 f1 f2 f3 : Field} (ht : Q.underlying t = some (.struct #[f0, f1, f2, f3])) (o0 : f0.offset = 0) (o1 : f1.offset = Q.cellsOf f0.type) (o2 : f2.offset = Q.cellsOf f0.type + Q.cellsOf f1.type) (o3 : f3.offset = Q.cellsOf f0.type + Q.cellsOf f1.type + Q.cellsOf f2.type) (hC : Q.cellsOf t = Q.cellsOf f0.type + Q.cellsOf f1.type + Q.cellsOf f2.type + Q.cellsOf f3.type)
    (h0 : Opn Q f0.type R) (h1 : Opn Q f1.type S) (h2 : Opn Q f2.type T) (h3 : Opn Q f3.type U) : Opn Q t (rTwo R (rTwo S (rTwo T U))) := fun H enc W fuel cs y h => by
  obtain ⟨xs, n, _, _, hl, hlen, hf⟩ := DataW.trod_struct ht h
  match xs, hlen with
  | [y0, y1, y2, y3], _ =>
    have k0 := hf 0 f0 rfl
    have k1 := hf 1 f1 rfl
    have k2 := hf 2 f2 rfl
    have k3 := hf 3 f3 rfl
    simp only [List.getElem?_cons_zero, List.getElem?_cons_succ] at k0 k1 k2 k3
    rw [o0, List.drop_zero] at k0
    rw [o1] at k1
    rw [o2] at k2
    rw [o3, List.take_of_length_le (by simp; omega)] at k3
    obtain ⟨x0, r0⟩ := h0 H enc W n _ _ k0
    obtain ⟨x1, r1⟩ := h1 H enc W n _ _ k1
    obtain ⟨x2, r2⟩ := h2 H enc W n _ _ k2
    obtain ⟨x3, r3⟩ := h3 H enc W n _ _ k3
    refine ⟨(x0, x1, x2, x3), _, _, (List.take_append_drop (Q.cellsOf f0.type) _).symm, r0, _, cs.drop (Q.cellsOf f0.type + Q.cellsOf f1.type), ?_, r1, _, _, ?_, r2, r3⟩
    · rw [← List.drop_drop]
      exact (List.take_append_drop _ _).symm
    · conv => rhs; rhs; rw [← List.drop_drop]
      exact (List.take_append_drop _ _).symm
end
theorem opn_tr : Opn Try.prog 43 (rTwo rInt (rSl 1 (rSl 1 rInt))) := opn_struct2 Try.underlying43 rfl (by kernel_rfl) (by kernel_rfl) (opn_int Try.underlying3) (opn_slice Try.underlying24 (by kernel_rfl) (by decide) (opn_slice Try.underlying27 (by kernel_rfl) (by decide) (opn_int Try.underlying3)))
theorem opn_ro : Opn Try.prog 27 (rSl 1 rInt) := opn_slice Try.underlying27 (by kernel_rfl) (by decide) (opn_int Try.underlying3)
theorem opn_it : Opn Try.prog 52 rIt := opn_struct4 Try.underlying52 rfl (by kernel_rfl) (by kernel_rfl) (by kernel_rfl) (by kernel_rfl) opn_tr opn_ro opn_ro opn_ro
theorem it_open {w : World} {lo hi : Nat} {cs : List Value} {x : ItD} (r : rIt w lo hi cs x) : ∃ a cap l capl h caph p capp, cs = [.int .i64 x.1.1, .slice a x.1.2.length cap, .slice l x.2.1.length capl, .slice h x.2.2.1.length caph, .slice p x.2.2.2.length capp] ∧ ItRd w hi a l h p cap capl caph capp x.1.2 x.2.1 x.2.2.1 x.2.2.2 ∧ (x.1.2.length ≤ 9223372036854775807 ∧ (∀ j (h : j < x.1.2.length), x.1.2[j].length ≤ 9223372036854775807) ∧ x.2.1.length ≤ 9223372036854775807 ∧ x.2.2.1.length ≤ 9223372036854775807 ∧ x.2.2.2.length ≤ 9223372036854775807) := by
  obtain ⟨_, _, rfl, ⟨_, _, rfl, hc, h1, a, cap, rfl, h2, h3⟩, _, _, rfl, ⟨h4, l, capl, rfl, h5, h6⟩, _, _, rfl, ⟨h7, h, caph, rfl, h8, h9⟩, h10, p, capp, rfl, h11, h12⟩ := r
  have hc' : _ = [Value.int .i64 x.1.1] := hc
  subst hc'
  exact ⟨a, cap, l, capl, h, caph, p, capp, rfl, ⟨grd_of h3, rd_of h6, rd_of h9, rd_of h12, h2, h5, h8, h11⟩, h1, len_of h3, h4, h7, h10⟩

/-! ### sizes -/
set_option maxHeartbeats 1000000 in
theorem sz_it (n : Int) (a l h p : Option Addr) (cap capl caph capp : Nat) (xss : List (List Int)) (L H P : List Int) (B : Nat) (k r : Int) (w : World) (h0 : 0 ≤ k) (hk : k ≤ 1048576) (n1 : xss.length ≤ 9223372036854775807) (n2 : ∀ j (h : j < xss.length), xss[j].length ≤ 9223372036854775807) (n3 : L.length ≤ 9223372036854775807) (n4 : H.length ≤ 9223372036854775807) (n5 : P.length ≤ 9223372036854775807) (hr0 : GRd w B a xss) (hB : B ≤ w.heap.size)
    (hr : RowKit.Hid ((k < (szI xss L H P : Nat) ∧ r = -1) ∨ ((szI xss L H P : Nat) ≤ k ∧ r = k - (szI xss L H P : Nat)))) :
    Calls Try.prog 43 #[.agg #[.int .i64 n, .slice a xss.length cap, .slice l L.length capl, .slice h H.length caph, .slice p P.length capp], .int .i64 k] w fun e w' => e = .returned (.int .i64 r) ∧ Below w.heap.size w w' := by
  have hrr := hr.out
  unfold szI at hrr
  have B1 := hid ((Below.refl w.heap.size w).alloc (Nat.le_refl _) (.cells #[.int .i64 n, .slice a xss.length cap, .slice l L.length capl, .slice h H.length caph, .slice p P.length capp] 52))
  have G1 := hid (hr0.below (B1.out.mono hB))
  clear hr hr0
  have Q0 := hid (hasl_new w [.int .i64 n, .slice a xss.length cap, .slice l L.length capl, .slice h H.length caph, .slice p P.length capp] 52)
  by_cases g0 : k < (tot xss : Nat)
  · obtain rfl : r = -1 := by omega
    have S0 := hid (sz_tr n a cap B xss (k) (-1) _ (by omega) (by omega) n1 n2 G1.out (by simp; omega) (hid (.inl ⟨g0, rfl⟩)))
    clear hrr G1
    go_enter Try.func43, Try.ntmps43
    go_wp2_with fail
    with_reducible refine S0.out.mono ?_
    rintro e w1 ⟨rfl, hb⟩
    have B2 := hid (B1.out.trans (hb.mono B1.out.size))
    have Q1 := hid (Q0.out.below hb)
    clear hb
    obtain ⟨c0, c1, c2, c3, c4, _, _, _, _, _, _⟩ := five Q1.out
    go_wp2
    go_ret
    exact ⟨rfl, B2.out⟩
  · have t0 : ¬ (k - (tot xss : Nat) < 0) := by omega
    have S0 := hid (sz_tr n a cap B xss (k) (k - (tot xss : Nat)) _ (by omega) (by omega) n1 n2 G1.out (by simp; omega) (hid (.inr ⟨by omega, rfl⟩)))
    by_cases g1 : k - (tot xss : Nat) < (L.length : Int)
    · obtain rfl : r = -1 := by omega
      have S1 := hid (fun W => sz_int l L.length capl (k - (tot xss : Nat)) (-1) W (by omega) (by omega) (by omega) (.inl ⟨g1, rfl⟩))
      clear hrr G1
      go_enter Try.func43, Try.ntmps43
      go_wp2_with fail
      with_reducible refine S0.out.mono ?_
      rintro e w1 ⟨rfl, hb⟩
      have B2 := hid (B1.out.trans (hb.mono B1.out.size))
      have Q1 := hid (Q0.out.below hb)
      clear hb
      obtain ⟨c0, c1, c2, c3, c4, _, _, _, _, _, _⟩ := five Q1.out
      go_wp2_with fail
      with_reducible refine (S1.out _).mono ?_
      rintro e w' ⟨rfl, rfl⟩
      go_wp2
      go_ret
      exact ⟨rfl, B2.out⟩
    · have t1 : ¬ (k - (tot xss : Nat) - (L.length : Int) < 0) := by omega
      have S1 := hid (fun W => sz_int l L.length capl (k - (tot xss : Nat)) (k - (tot xss : Nat) - (L.length : Int)) W (by omega) (by omega) (by omega) (.inr ⟨by omega, rfl⟩))
      by_cases g2 : k - (tot xss : Nat) - (L.length : Int) < (H.length : Int)
      · obtain rfl : r = -1 := by omega
        have S2 := hid (fun W => sz_int h H.length caph (k - (tot xss : Nat) - (L.length : Int)) (-1) W (by omega) (by omega) (by omega) (.inl ⟨g2, rfl⟩))
        clear hrr G1
        go_enter Try.func43, Try.ntmps43
        go_wp2_with fail
        with_reducible refine S0.out.mono ?_
        rintro e w1 ⟨rfl, hb⟩
        have B2 := hid (B1.out.trans (hb.mono B1.out.size))
        have Q1 := hid (Q0.out.below hb)
        clear hb
        obtain ⟨c0, c1, c2, c3, c4, _, _, _, _, _, _⟩ := five Q1.out
        go_wp2_with fail
        with_reducible refine (S1.out _).mono ?_
        rintro e w' ⟨rfl, rfl⟩
        go_wp2_with fail
        with_reducible refine (S2.out _).mono ?_
        rintro e w' ⟨rfl, rfl⟩
        go_wp2
        go_ret
        exact ⟨rfl, B2.out⟩
      · have t2 : ¬ (k - (tot xss : Nat) - (L.length : Int) - (H.length : Int) < 0) := by omega
        have S2 := hid (fun W => sz_int h H.length caph (k - (tot xss : Nat) - (L.length : Int)) (k - (tot xss : Nat) - (L.length : Int) - (H.length : Int)) W (by omega) (by omega) (by omega) (.inr ⟨by omega, rfl⟩))
        by_cases g3 : k - (tot xss : Nat) - (L.length : Int) - (H.length : Int) < (P.length : Int)
        · obtain rfl : r = -1 := by omega
          have S3 := hid (fun W => sz_int p P.length capp (k - (tot xss : Nat) - (L.length : Int) - (H.length : Int)) (-1) W (by omega) (by omega) (by omega) (.inl ⟨g3, rfl⟩))
          clear hrr G1
          go_enter Try.func43, Try.ntmps43
          go_wp2_with fail
          with_reducible refine S0.out.mono ?_
          rintro e w1 ⟨rfl, hb⟩
          have B2 := hid (B1.out.trans (hb.mono B1.out.size))
          have Q1 := hid (Q0.out.below hb)
          clear hb
          obtain ⟨c0, c1, c2, c3, c4, _, _, _, _, _, _⟩ := five Q1.out
          go_wp2_with fail
          with_reducible refine (S1.out _).mono ?_
          rintro e w' ⟨rfl, rfl⟩
          go_wp2_with fail
          with_reducible refine (S2.out _).mono ?_
          rintro e w' ⟨rfl, rfl⟩
          go_wp2_with fail
          with_reducible refine (S3.out _).mono ?_
          rintro e w' ⟨rfl, rfl⟩
          go_wp2
          go_ret
          exact ⟨rfl, B2.out⟩
        · obtain rfl : r = k - (tot xss : Nat) - (L.length : Int) - (H.length : Int) - (P.length : Int) := by omega
          have t3 : ¬ (k - (tot xss : Nat) - (L.length : Int) - (H.length : Int) - (P.length : Int) < 0) := by omega
          have S3 := hid (fun W => sz_int p P.length capp (k - (tot xss : Nat) - (L.length : Int) - (H.length : Int)) (k - (tot xss : Nat) - (L.length : Int) - (H.length : Int) - (P.length : Int)) W (by omega) (by omega) (by omega) (.inr ⟨by omega, rfl⟩))
          clear hrr G1
          go_enter Try.func43, Try.ntmps43
          go_wp2_with fail
          with_reducible refine S0.out.mono ?_
          rintro e w1 ⟨rfl, hb⟩
          have B2 := hid (B1.out.trans (hb.mono B1.out.size))
          have Q1 := hid (Q0.out.below hb)
          clear hb
          obtain ⟨c0, c1, c2, c3, c4, _, _, _, _, _, _⟩ := five Q1.out
          go_wp2_with fail
          with_reducible refine (S1.out _).mono ?_
          rintro e w' ⟨rfl, rfl⟩
          go_wp2_with fail
          with_reducible refine (S2.out _).mono ?_
          rintro e w' ⟨rfl, rfl⟩
          go_wp2_with fail
          with_reducible refine (S3.out _).mono ?_
          rintro e w' ⟨rfl, rfl⟩
          go_wp2
          go_ret
          exact ⟨rfl, B2.out⟩

/-! ### iterators of a call's own -/
/-- The rows lie in blocks from lo on and below m, the three lists in blocks of their own from m on. -/
structure ItOwn (w : World) (lo m : Nat) (vT : Value) (vs : List Value) (vL vH vP : Value) (xss : List (List Int)) (L H P : List Int) : Prop where
  t : GOwn w lo eR eI vT vs xss
  under : GUnder m vT vs
  l : Own w m eI vL L
  h : Own w m eI vH H
  p : Own w m eI vP P
  far1 : ∀ k, vL.ownBlock = some k → vH.ownBlock ≠ some k
  far2 : ∀ k, vL.ownBlock = some k → vP.ownBlock ≠ some k
  far3 : ∀ k, vH.ownBlock = some k → vP.ownBlock ≠ some k
  le : lo ≤ m
  le2 : m ≤ w.heap.size
structure ItUnder (top : Nat) (vT : Value) (vs : List Value) (vL vH vP : Value) : Prop where
  t : GUnder top vT vs
  l : Under top vL
  h : Under top vH
  p : Under top vP
theorem ItUnder.mono {lo hi : Nat} {vT vL vH vP : Value} {vs : List Value} (u : ItUnder lo vT vs vL vH vP) (hl : lo ≤ hi) : ItUnder hi vT vs vL vH vP := ⟨u.t.mono hl, fun k hk => Nat.lt_of_lt_of_le (u.l k hk) hl, fun k hk => Nat.lt_of_lt_of_le (u.h k hk) hl, fun k hk => Nat.lt_of_lt_of_le (u.p k hk) hl⟩
theorem itown_under {w : World} {lo m : Nat} {vT vL vH vP : Value} {vs : List Value} {xss : List (List Int)} {L H P : List Int} (o : ItOwn w lo m vT vs vL vH vP xss L H P) : ItUnder w.heap.size vT vs vL vH vP := ⟨gown_under o.t, fun k hk => (o.l.lt k hk).2, fun k hk => (o.h.lt k hk).2, fun k hk => (o.p.lt k hk).2⟩
theorem ItOwn.below' {w w' : World} {lo m : Nat} {vT vL vH vP : Value} {vs : List Value} {xss : List (List Int)} {L H P : List Int} (o : ItOwn w lo m vT vs vL vH vP xss L H P) (hb : Below w.heap.size w w') : ItOwn w' lo m vT vs vL vH vP xss L H P := ⟨o.t.below' hb, o.under, o.l.below' hb, o.h.below' hb, o.p.below' hb, o.far1, o.far2, o.far3, o.le, Nat.le_trans o.le2 hb.size⟩
theorem ItOwn.alloc {w : World} {lo m : Nat} {vT vL vH vP : Value} {vs : List Value} {xss : List (List Int)} {L H P : List Int} (o : ItOwn w lo m vT vs vL vH vP xss L H P) (ob : Obj) : ItOwn (w.alloc ob) lo m vT vs vL vH vP xss L H P := o.below' ((Below.refl _ _).alloc (Nat.le_refl _) ob)
theorem ItOwn.drew {w : World} {lo m : Nat} {vT vL vH vP : Value} {vs : List Value} {xss : List (List Int)} {L H P : List Int} (o : ItOwn w lo m vT vs vL vH vP xss L H P) : ItOwn w.drew lo m vT vs vL vH vP xss L H P := o.below' (Below.refl _ _).drew
theorem itown_turned {w w' : World} {l1 hi lo m : Nat} {vT vL vH vP : Value} {vs : List Value} {xss : List (List Int)} {L H P : List Int} (o : ItOwn w lo m vT vs vL vH vP xss L H P) (t : Turn l1 hi w w') (hv : hi ≤ lo ∨ ItUnder l1 vT vs vL vH vP) : ItOwn w' lo m vT vs vL vH vP xss L H P :=
  ⟨gown_turned o.t t (hv.imp id fun u => u.t), o.under, own_turned o.l t (hv.imp (fun e => Nat.le_trans e o.le) fun u => u.l), own_turned o.h t (hv.imp (fun e => Nat.le_trans e o.le) fun u => u.h), own_turned o.p t (hv.imp (fun e => Nat.le_trans e o.le) fun u => u.p), o.far1, o.far2, o.far3, o.le, Nat.le_trans o.le2 t.size⟩
theorem turn_set (w : World) (b o : Nat) (u : Value) : Turn b (b + 1) w (w.setCell ⟨b, o, none⟩ u) := ⟨rfl, rfl, rfl, by simp, fun k hk hkk => Below.heap_setCell _ _ _ _ (by simp; omega)⟩
theorem ItOwn.set {w : World} {lo m : Nat} {vT vL vH vP : Value} {vs : List Value} {xss : List (List Int)} {L H P : List Int} (o : ItOwn w lo m vT vs vL vH vP xss L H P) (b i : Nat) (u : Value) (hb : b < lo) : ItOwn (w.setCell ⟨b, i, none⟩ u) lo m vT vs vL vH vP xss L H P := itown_turned o (turn_set w b i u) (.inl (by omega))
theorem ItOwn.mono {w : World} {lo lo' m : Nat} {vT vL vH vP : Value} {vs : List Value} {xss : List (List Int)} {L H P : List Int} (o : ItOwn w lo m vT vs vL vH vP xss L H P) (h : lo' ≤ lo) : ItOwn w lo' m vT vs vL vH vP xss L H P := ⟨o.t.mono h, o.under, o.l, o.h, o.p, o.far1, o.far2, o.far3, by have := o.le; omega, o.le2⟩
theorem own_up {w : World} {lo lo' : Nat} {e : TypeId} {v : Value} {xs : List Int} (o : Own w lo e v xs) (h : ∀ k, v.ownBlock = some k → lo' ≤ k) : Own w lo' e v xs := by
  refine ⟨o.1, ?_⟩
  rcases o.2 with hn | ⟨g, cap, cur, rfl, hg, hh, r⟩
  · exact .inl hn
  · exact .inr ⟨g, cap, cur, rfl, h g rfl, hh, r⟩
/-- Its values, as slices. -/
theorem itown_form {w : World} {lo m : Nat} {vT vL vH vP : Value} {vs : List Value} {xss : List (List Int)} {L H P : List Int} (o : ItOwn w lo m vT vs vL vH vP xss L H P) : ∃ a cap l capl h caph p capp, vT = .slice a xss.length cap ∧ vL = .slice l L.length capl ∧ vH = .slice h H.length caph ∧ vP = .slice p P.length capp ∧ ItRd w w.heap.size a l h p cap capl caph capp xss L H P := by
  obtain ⟨a, cap, hva, h1, _⟩ := o.t.form
  obtain ⟨l, capl, hvl, h2, _, r2⟩ := o.l.form
  obtain ⟨h, caph, hvh, h3, _, r3⟩ := o.h.form
  obtain ⟨p, capp, hvp, h4, _, r4⟩ := o.p.form
  exact ⟨a, cap, l, capl, h, caph, p, capp, hva, hvl, hvh, hvp, gown_rd (hva ▸ o.t), r2, r3, r4, h1, h2, h3, h4⟩
theorem itown_rd {w : World} {lo m cap capl caph capp : Nat} {a l h p : Option Addr} {vs : List Value} {xss : List (List Int)} {L H P : List Int} (o : ItOwn w lo m (.slice a xss.length cap) vs (.slice l L.length capl) (.slice h H.length caph) (.slice p P.length capp) xss L H P) : ItRd w w.heap.size a l h p cap capl caph capp xss L H P := by
  obtain ⟨a', cap', l', capl', h', caph', p', capp', e1, e2, e3, e4, r⟩ := itown_form o
  cases e1; cases e2; cases e3; cases e4
  exact r
theorem turn_wide {lo lo' hi hi' : Nat} {w w' : World} (t : Turn lo hi w w') (h1 : lo' ≤ lo) (h2 : hi ≤ hi') : Turn lo' hi' w w' := ⟨t.os, t.tape, t.output, t.size, fun k hk hkk => t.block k hk (by omega)⟩

set_option maxHeartbeats 1000000 in
theorem eq_it (n : Int) (a l h p a' l' h' p' : Option Addr) (cap capl caph capp cap' capl' caph' capp' : Nat) (xss : List (List Int)) (L H P : List Int) (B B' : Nat) (w : World) (hs : szI xss L H P ≤ 1048576) (r : ItRd w B a l h p cap capl caph capp xss L H P) (r' : ItRd w B' a' l' h' p' cap' capl' caph' capp' xss L H P) (hB : B ≤ w.heap.size) (hB' : B' ≤ w.heap.size) :
    Calls Try.prog 38 #[.agg #[.int .i64 n, .slice a xss.length cap, .slice l L.length capl, .slice h H.length caph, .slice p P.length capp], .agg #[.int .i64 n, .slice a' xss.length cap', .slice l' L.length capl', .slice h' H.length caph', .slice p' P.length capp']] w fun e w' => e = .returned (.bool true) ∧ Below w.heap.size w w' := by
  obtain ⟨n1, _, _, n3, n4, n5, _, _⟩ := szI_parts hs
  have BB := hid (((Below.refl w.heap.size w).alloc (Nat.le_refl _) (.cells #[.int .i64 n, .slice a xss.length cap, .slice l L.length capl, .slice h H.length caph, .slice p P.length capp] 29)).alloc (by simp) (.cells #[.int .i64 n, .slice a' xss.length cap', .slice l' L.length capl', .slice h' H.length caph', .slice p' P.length capp'] 29))
  have K0 := hid ((hasl_new w [.int .i64 n, .slice a xss.length cap, .slice l L.length capl, .slice h H.length caph, .slice p P.length capp] 29).alloc (.cells #[.int .i64 n, .slice a' xss.length cap', .slice l' L.length capl', .slice h' H.length caph', .slice p' P.length capp'] 29))
  have K1 := hid (hasl_new (w.alloc (.cells #[.int .i64 n, .slice a xss.length cap, .slice l L.length capl, .slice h H.length caph, .slice p P.length capp] 29)) [.int .i64 n, .slice a' xss.length cap', .slice l' L.length capl', .slice h' H.length caph', .slice p' P.length capp'] 29)
  simp only [World.size_alloc] at K1
  have E0 := hid (eq_tr n a a' cap cap' xss B B' _ n1 (r.t.below (BB.out.mono hB)) (r'.t.below (BB.out.mono hB')) (by simp; omega) (by simp; omega))
  have R := hid r
  have R' := hid r'
  clear r r'
  go_enter Try.func38, Try.ntmps38
  go_wp2_with fail
  with_reducible refine E0.out.mono ?_
  rintro e w1 ⟨rfl, hb⟩
  replace BB := hid (BB.out.trans (hb.mono BB.out.size))
  replace K0 := hid (K0.out.below hb)
  replace K1 := hid (K1.out.below hb)
  clear hb E0
  obtain ⟨c0_K0, c1_K0, c2_K0, c3_K0, c4_K0, f0_K0, f1_K0, f2_K0, f3_K0, f4_K0, z_K0⟩ := five K0.out
  obtain ⟨c0_K1, c1_K1, c2_K1, c3_K1, c4_K1, f0_K1, f1_K1, f2_K1, f3_K1, f4_K1, z_K1⟩ := five K1.out
  have E1 := hid (eq_ints l l' capl capl' L B B' w1 (by omega) (R.out.l.below (BB.out.mono hB)) (R'.out.l.below (BB.out.mono hB')) (Nat.le_trans hB BB.out.size) (Nat.le_trans hB' BB.out.size))
  go_wp2_with fail
  with_reducible refine E1.out.mono ?_
  rintro e w2 ⟨rfl, hb⟩
  clear c0_K0 c1_K0 c2_K0 c3_K0 c4_K0 f0_K0 f1_K0 f2_K0 f3_K0 f4_K0 z_K0
  clear c0_K1 c1_K1 c2_K1 c3_K1 c4_K1 f0_K1 f1_K1 f2_K1 f3_K1 f4_K1 z_K1
  replace BB := hid (BB.out.trans (hb.mono BB.out.size))
  replace K0 := hid (K0.out.below hb)
  replace K1 := hid (K1.out.below hb)
  clear hb E1
  obtain ⟨c0_K0, c1_K0, c2_K0, c3_K0, c4_K0, f0_K0, f1_K0, f2_K0, f3_K0, f4_K0, z_K0⟩ := five K0.out
  obtain ⟨c0_K1, c1_K1, c2_K1, c3_K1, c4_K1, f0_K1, f1_K1, f2_K1, f3_K1, f4_K1, z_K1⟩ := five K1.out
  have E2 := hid (eq_ints h h' caph caph' H B B' w2 (by omega) (R.out.h.below (BB.out.mono hB)) (R'.out.h.below (BB.out.mono hB')) (Nat.le_trans hB BB.out.size) (Nat.le_trans hB' BB.out.size))
  go_wp2_with fail
  with_reducible refine E2.out.mono ?_
  rintro e w3 ⟨rfl, hb⟩
  clear c0_K0 c1_K0 c2_K0 c3_K0 c4_K0 f0_K0 f1_K0 f2_K0 f3_K0 f4_K0 z_K0
  clear c0_K1 c1_K1 c2_K1 c3_K1 c4_K1 f0_K1 f1_K1 f2_K1 f3_K1 f4_K1 z_K1
  replace BB := hid (BB.out.trans (hb.mono BB.out.size))
  replace K0 := hid (K0.out.below hb)
  replace K1 := hid (K1.out.below hb)
  clear hb E2
  obtain ⟨c0_K0, c1_K0, c2_K0, c3_K0, c4_K0, f0_K0, f1_K0, f2_K0, f3_K0, f4_K0, z_K0⟩ := five K0.out
  obtain ⟨c0_K1, c1_K1, c2_K1, c3_K1, c4_K1, f0_K1, f1_K1, f2_K1, f3_K1, f4_K1, z_K1⟩ := five K1.out
  have E3 := hid (eq_ints p p' capp capp' P B B' w3 (by omega) (R.out.p.below (BB.out.mono hB)) (R'.out.p.below (BB.out.mono hB')) (Nat.le_trans hB BB.out.size) (Nat.le_trans hB' BB.out.size))
  go_wp2_with fail
  with_reducible refine E3.out.mono ?_
  rintro e w4 ⟨rfl, hb⟩
  clear c0_K0 c1_K0 c2_K0 c3_K0 c4_K0 f0_K0 f1_K0 f2_K0 f3_K0 f4_K0 z_K0
  clear c0_K1 c1_K1 c2_K1 c3_K1 c4_K1 f0_K1 f1_K1 f2_K1 f3_K1 f4_K1 z_K1
  replace BB := hid (BB.out.trans (hb.mono BB.out.size))
  replace K0 := hid (K0.out.below hb)
  replace K1 := hid (K1.out.below hb)
  clear hb E3
  go_wp2
  go_ret
  exact ⟨rfl, BB.out⟩

set_option maxRecDepth 100000 in
set_option maxHeartbeats 1000000 in
theorem mark_it (n : Int) (lo m hi : Nat) (vT vL vH vP : Value) (vs : List Value) (k0 : Int) (xss : List (List Int)) (L H P : List Int) (w : World) (hs : szI xss L H P ≤ 1048576) (h0 : 0 ≤ k0) (h1 : k0 ≤ 1000000) (o : ItOwn w lo m vT vs vL vH vP xss L H P) (hu : ItUnder hi vT vs vL vH vP) (hmh : m ≤ hi) (hh : hi ≤ w.heap.size) :
    Calls Try.prog 41 #[.agg #[.int .i64 n, vT, vL, vH, vP], .int .i64 k0] w fun e w' => ∃ yss, e = .returned (.int .i64 (k0 + (ints xss : Nat) + (L.length : Nat) + (H.length : Nat) + (P.length : Nat))) ∧ ItOwn w' lo m vT vs vL vH vP yss (marks (k0 + (ints xss : Nat)) L.length) (marks (k0 + (ints xss : Nat) + (L.length : Nat)) H.length) (marks (k0 + (ints xss : Nat) + (L.length : Nat) + (H.length : Nat)) P.length) ∧ Marks k0 xss yss ∧ Turn lo hi w w' := by
  obtain ⟨n1, _, _, n3, n4, n5, n6, n7⟩ := szI_parts hs
  have O := hid (o.alloc (.cells #[.int .i64 n, vT, vL, vH, vP] 29))
  have TT := hid (Turn.of_below (lo := lo) (hi := hi) ((Below.refl w.heap.size w).alloc (Nat.le_refl _) (.cells #[.int .i64 n, vT, vL, vH, vP] 29)) (Nat.le_refl _))
  have K0 := hid (hasl_new w [.int .i64 n, vT, vL, vH, vP] 29)
  have hlm := o.le
  have hm2 := o.le2
  have Ul := hid (fun k hk => (⟨(o.l.lt k hk).1, hu.l k hk⟩ : m ≤ k ∧ k < hi))
  have Uh := hid (fun k hk => (⟨(o.h.lt k hk).1, hu.h k hk⟩ : m ≤ k ∧ k < hi))
  have Up := hid (fun k hk => (⟨(o.p.lt k hk).1, hu.p k hk⟩ : m ≤ k ∧ k < hi))
  have F1 := hid o.far1
  have F2 := hid o.far2
  have F3 := hid o.far3
  have HU := hid o.under
  obtain ⟨a, cap, hva, _⟩ := o.t.form
  obtain ⟨l, capl, hvl, _⟩ := o.l.form
  obtain ⟨h, caph, hvh, _⟩ := o.h.form
  obtain ⟨p, capp, hvp, _⟩ := o.p.form
  clear o
  subst hva hvl hvh hvp
  have M0 := hid (mark_tr lo m n _ vs k0 xss _ n1 h0 (by omega) O.out.t HU.out)
  go_enter Try.func41, Try.ntmps41
  go_wp2_with fail
  with_reducible refine M0.out.mono ?_
  rintro e w1 ⟨yss, rfl, hA, hm, ht⟩
  have hs1 := ht.size
  simp only [World.size_alloc] at hs1
  have G := hid hA
  have HM := hid hm
  have Ql := hid (own_turned O.out.l ht (.inl (Nat.le_refl _)))
  have Qh := hid (own_turned O.out.h ht (.inl (Nat.le_refl _)))
  have Qp := hid (own_turned O.out.p ht (.inl (Nat.le_refl _)))
  replace K0 := hid (hasl_turned K0.out ht (.inr hm2))
  replace TT := hid (TT.out.trans (turn_wide ht (Nat.le_refl _) hmh))
  clear ht hA hm O M0
  obtain ⟨c0_K0, c1_K0, c2_K0, c3_K0, c4_K0, f0_K0, f1_K0, f2_K0, f3_K0, f4_K0, z_K0⟩ := five K0.out
  have M1 := hid (mark_own m _ (k0 + (ints xss : Nat)) L w1 n3 (by omega) (by omega) Ql.out)
  go_wp2_with fail
  with_reducible refine M1.out.mono ?_
  rintro e w2 ⟨rfl, hQ, hg⟩
  clear c0_K0 c1_K0 c2_K0 c3_K0 c4_K0 f0_K0 f1_K0 f2_K0 f3_K0 f4_K0 z_K0
  have t2 := Turn.of_grown hg Ul.out
  have hs2 := hg.size
  replace G := hid (gown_turned G.out t2 (.inr HU.out))
  replace Qh := hid (Qh.out.grown hg (fun k hk e => by first | exact F1.out k e hk | exact F1.out k hk e))
  replace Qp := hid (Qp.out.grown hg (fun k hk e => by first | exact F2.out k e hk | exact F2.out k hk e))
  replace Ql := hid hQ
  replace K0 := hid (hasl_turned K0.out t2 (.inr hh))
  replace TT := hid (TT.out.trans (turn_wide t2 hlm (Nat.le_refl _)))
  clear hQ hg t2 M1
  obtain ⟨c0_K0, c1_K0, c2_K0, c3_K0, c4_K0, f0_K0, f1_K0, f2_K0, f3_K0, f4_K0, z_K0⟩ := five K0.out
  have M2 := hid (mark_own m _ (k0 + (ints xss : Nat) + (L.length : Nat)) H w2 n4 (by omega) (by omega) Qh.out)
  go_wp2_with fail
  with_reducible refine M2.out.mono ?_
  rintro e w3 ⟨rfl, hQ, hg⟩
  clear c0_K0 c1_K0 c2_K0 c3_K0 c4_K0 f0_K0 f1_K0 f2_K0 f3_K0 f4_K0 z_K0
  have t2 := Turn.of_grown hg Uh.out
  have hs3 := hg.size
  replace G := hid (gown_turned G.out t2 (.inr HU.out))
  replace Ql := hid (Ql.out.grown hg (fun k hk e => by first | exact F1.out k e hk | exact F1.out k hk e))
  replace Qp := hid (Qp.out.grown hg (fun k hk e => by first | exact F3.out k e hk | exact F3.out k hk e))
  replace Qh := hid hQ
  replace K0 := hid (hasl_turned K0.out t2 (.inr hh))
  replace TT := hid (TT.out.trans (turn_wide t2 hlm (Nat.le_refl _)))
  clear hQ hg t2 M2
  obtain ⟨c0_K0, c1_K0, c2_K0, c3_K0, c4_K0, f0_K0, f1_K0, f2_K0, f3_K0, f4_K0, z_K0⟩ := five K0.out
  have M3 := hid (mark_own m _ (k0 + (ints xss : Nat) + (L.length : Nat) + (H.length : Nat)) P w3 n5 (by omega) (by omega) Qp.out)
  go_wp2_with fail
  with_reducible refine M3.out.mono ?_
  rintro e w4 ⟨rfl, hQ, hg⟩
  clear c0_K0 c1_K0 c2_K0 c3_K0 c4_K0 f0_K0 f1_K0 f2_K0 f3_K0 f4_K0 z_K0
  have t2 := Turn.of_grown hg Up.out
  have hs4 := hg.size
  replace G := hid (gown_turned G.out t2 (.inr HU.out))
  replace Ql := hid (Ql.out.grown hg (fun k hk e => by first | exact F2.out k e hk | exact F2.out k hk e))
  replace Qh := hid (Qh.out.grown hg (fun k hk e => by first | exact F3.out k e hk | exact F3.out k hk e))
  replace Qp := hid hQ
  replace K0 := hid (hasl_turned K0.out t2 (.inr hh))
  replace TT := hid (TT.out.trans (turn_wide t2 hlm (Nat.le_refl _)))
  clear hQ hg t2 M3
  go_wp2_with fail
  go_ret
  exact ⟨yss, rfl, ⟨G.out, HU.out, Ql.out, Qh.out, Qp.out, F1.out, F2.out, F3.out, hlm, by omega⟩, HM.out, TT.out⟩

set_option maxRecDepth 100000 in
set_option maxHeartbeats 1000000 in
theorem held_it (n : Int) (lo m : Nat) (vT vL vH vP : Value) (vs : List Value) (k0 : Int) (xss yss : List (List Int)) (L H P : List Int) (w : World) (hs : szI xss L H P ≤ 1048576) (h0 : 0 ≤ k0) (h1 : k0 ≤ 1000000) (hm : Marks k0 xss yss) (o : ItOwn w lo m vT vs vL vH vP yss (marks (k0 + (ints xss : Nat)) L.length) (marks (k0 + (ints xss : Nat) + (L.length : Nat)) H.length) (marks (k0 + (ints xss : Nat) + (L.length : Nat) + (H.length : Nat)) P.length)) :
    Calls Try.prog 42 #[.agg #[.int .i64 n, vT, vL, vH, vP], .int .i64 k0] w fun e w' => e = .returned (.int .i64 (k0 + (ints xss : Nat) + (L.length : Nat) + (H.length : Nat) + (P.length : Nat))) ∧ Below w.heap.size w w' := by
  obtain ⟨n1, _, _, n3, n4, n5, n6, n7⟩ := szI_parts hs
  obtain ⟨a, cap, l, capl, h, caph, p, capp, hva, hvl, hvh, hvp, r⟩ := itown_form o
  have hyl : yss.length = xss.length := hm.1
  simp only [marks_length, hyl] at hva hvl hvh hvp
  subst hva hvl hvh hvp
  clear o
  have BB := hid ((Below.refl w.heap.size w).alloc (Nat.le_refl _) (.cells #[.int .i64 n, .slice a xss.length cap, .slice l L.length capl, .slice h H.length caph, .slice p P.length capp] 29))
  have K0 := hid (hasl_new w [.int .i64 n, .slice a xss.length cap, .slice l L.length capl, .slice h H.length caph, .slice p P.length capp] 29)
  have R := hid (r.below ((Below.refl _ w).alloc (Nat.le_refl _) (.cells #[.int .i64 n, .slice a xss.length cap, .slice l L.length capl, .slice h H.length caph, .slice p P.length capp] 29)))
  have M0 := hid (held_tr n a cap w.heap.size k0 xss yss _ n1 h0 (by omega) hm R.out.t (by simp))
  have t0 : ¬ (k0 + (ints xss : Nat) < 0) := by omega
  have t1 : ¬ (k0 + (ints xss : Nat) + (L.length : Nat) < 0) := by omega
  have t2 : ¬ (k0 + (ints xss : Nat) + (L.length : Nat) + (H.length : Nat) < 0) := by omega
  have t3 : ¬ (k0 + (ints xss : Nat) + (L.length : Nat) + (H.length : Nat) + (P.length : Nat) < 0) := by omega
  clear hm hyl r
  go_enter Try.func42, Try.ntmps42
  go_wp2_with fail
  with_reducible refine M0.out.mono ?_
  rintro e w1 ⟨rfl, hb⟩
  replace K0 := hid (K0.out.below hb)
  replace R := hid (R.out.below (hb.mono (by simp)))
  replace BB := hid (BB.out.trans (hb.mono BB.out.size))
  clear hb M0
  obtain ⟨c0_K0, c1_K0, c2_K0, c3_K0, c4_K0, f0_K0, f1_K0, f2_K0, f3_K0, f4_K0, z_K0⟩ := five K0.out
  have M1 := hid (held_ints l capl (k0 + (ints xss : Nat)) L.length _ w1 n3 (by omega) (by omega) R.out.l)
  go_wp2_with fail
  with_reducible refine M1.out.mono ?_
  rintro e w' ⟨rfl, rfl⟩
  have M2 := hid (held_ints h caph (k0 + (ints xss : Nat) + (L.length : Nat)) H.length _ w1 n4 (by omega) (by omega) R.out.h)
  go_wp2_with fail
  with_reducible refine M2.out.mono ?_
  rintro e w' ⟨rfl, rfl⟩
  have M3 := hid (held_ints p capp (k0 + (ints xss : Nat) + (L.length : Nat) + (H.length : Nat)) P.length _ w1 n5 (by omega) (by omega) R.out.p)
  go_wp2_with fail
  with_reducible refine M3.out.mono ?_
  rintro e w' ⟨rfl, rfl⟩
  go_wp2_with fail
  go_ret
  exact ⟨rfl, BB.out⟩
end Go.Proofs.Ytliomgoakiidfaa.ItLaw
