/- The relation of an atom (impl.relationOfAtom), and impl.IsQueryFor over it. -/
import Derived.Test.YtpeojpdgknamgaaQryFor
import Derived.Deep.QuietTactic
namespace Go.Proofs.Ytpeojpdgknamgaa.RelOf
open Go.RowKit
open Go.Proofs.Ytpeojpdgknamgaa.Num Go.Proofs.Ytpeojpdgknamgaa.IntRow Go.Proofs.Ytpeojpdgknamgaa.Rdr Go.Proofs.Ytpeojpdgknamgaa.Dat Go.Proofs.Ytpeojpdgknamgaa.HasL Go.Proofs.Ytpeojpdgknamgaa.QryP Go.Proofs.Ytpeojpdgknamgaa.DbP Go.Proofs.Ytpeojpdgknamgaa.TabFind Go.Proofs.Ytpeojpdgknamgaa.DbVI Go.Proofs.Ytpeojpdgknamgaa.DbVS Go.Proofs.Ytpeojpdgknamgaa.QryVI Go.Proofs.Ytpeojpdgknamgaa.QryVS Go.Proofs.Ytpeojpdgknamgaa.QryFor
set_option linter.unusedVariables false

/-- What is found: the relation of the atom's table, read where the database lies. -/
structure RofP (ts : List TableD) (x : AtomD) (r : RelD) (f : Bool) : Prop where
  ok : okF ts x = f
  yes : f = true → ∃ p, ∃ h : p < ts.length, ts[p].1.toList = x.1.toList ∧ ts[p].2 = r ∧ r.1 = (x.2.length : Int)
  no : f = false → r = (0, [])
def Rof (ts : List TableD) (x : AtomD) (lo hi : Nat) (w : World) (e : Ending) (w' : World) : Prop := ∃ (r : RelD) (f : Bool) (a : Option Addr) (cap : Nat), e = .returned (.tuple #[.agg #[.int .i64 r.1, .slice a r.2.length cap], .bool f]) ∧ RofP ts x r f ∧ rRel w' lo hi [.int .i64 r.1, .slice a r.2.length cap] r ∧ Below w.heap.size w w'
theorem rel_none (w : World) (lo hi : Nat) : rRel w lo hi [.int .i64 0, .slice none 0 0] (0, []) := rel_mk (x := (0, [])) (by simp) Els.nil

theorem Below.drewN {B n : Nat} {a w : World} (h : Below B a w) : Below B a (w.drewN n) := ⟨h.os, h.tape, h.output, h.size, h.block⟩
theorem put_drewN {w : World} {b : Nat} {x y : Value} (h : HasL w b [x, y]) (u v : Value) (n : Nat) : (((w.drewN n).setCell ⟨b, 0, none⟩ u).setCell ⟨b, 1, none⟩ v).cell? ⟨b, 0, none⟩ = some u ∧ (((w.drewN n).setCell ⟨b, 0, none⟩ u).setCell ⟨b, 1, none⟩ v).cell? ⟨b, 1, none⟩ = some v := by
  obtain ⟨r0, r1, _, _, _⟩ := HasL.two (((show HasL (w.drewN n) b [x, y] from ⟨h.1, h.2⟩).put 0 u).put 1 v)
  exact ⟨r0, r1⟩
theorem rel_of_table {w : World} {lo hi : Nat} {t : TableD} {a : Option Addr} {cap : Nat} (h : rTable w lo hi [.string t.1, .int .i64 t.2.1, .slice a t.2.2.length cap] t) : rRel w lo hi [.int .i64 t.2.1, .slice a t.2.2.length cap] t.2 := by
  obtain ⟨c, d, e, ⟨hc, _⟩, hr⟩ := h
  subst hc
  simp only [List.cons_append, List.nil_append, List.cons.injEq, true_and] at e
  subst e
  exact hr

set_option maxRecDepth 100000 in
set_option maxHeartbeats 4000000 in
theorem impl_rof (cs ds : List Value) (ts : List TableD) (x : AtomD) (lo hi lo' hi' : Nat) (w : World) (hn1 : ts.length ≤ 1048576) (ha : AscN ts) (hlen : x.2.length ≤ 1048576) (h : rDb w lo hi cs ts) (h' : rAtom w lo' hi' ds x) (hh : hi ≤ w.heap.size) (hh' : hi' ≤ w.heap.size) :
    Calls Try.prog 57 #[.agg cs.toArray, .agg ds.toArray] w (Rof ts x lo hi w) := by
  obtain ⟨a, cap, hcs, _, hels⟩ := db_open h
  subst hcs
  obtain ⟨q, capq, hds, _, _, _⟩ := atom_open h'
  subst hds
  have K0 := hid (((hasl_new w [.slice a ts.length cap] 44).alloc (.cells #[.string x.1, .slice q x.2.length capq] 82)).alloc (.cells #[.int .i64 0, .slice none 0 0] 27))
  have K1 := hid ((hasl_new (w.alloc (.cells #[.slice a ts.length cap] 44)) [.string x.1, .slice q x.2.length capq] 82).alloc (.cells #[.int .i64 0, .slice none 0 0] 27))
  have K2 := hid (hasl_new ((w.alloc (.cells #[.slice a ts.length cap] 44)).alloc (.cells #[.string x.1, .slice q x.2.length capq] 82)) [.int .i64 0, .slice none 0 0] 27)
  have B3 := hid ((((Below.refl w.heap.size w).alloc (Nat.le_refl _) (.cells #[.slice a ts.length cap] 44)).alloc (by simp) (.cells #[.string x.1, .slice q x.2.length capq] 82)).alloc (by simp; omega) (.cells #[.int .i64 0, .slice none 0 0] 27))
  simp only [World.size_alloc] at K1 K2
  have F := hid (impl_findT _ ts x.1 lo hi _ hn1 ha (good_db.keep h (sm_below B3.out hh)) (Nat.le_trans hh B3.out.size))
  have HE := hid hels
  have HA := hid ha
  clear h h' hels ha
  go_enter Try.func57, Try.ntmps57
  obtain ⟨p0, _, p2⟩ := K0.out.one
  obtain ⟨s0, s1, _, _, s4⟩ := K1.out.two
  go_wp2_with fail
  with_reducible refine F.out.mono ?_
  rintro e w3 ⟨p, bb, rfl, hf, hb3⟩
  have HF := hid hf
  have HB3 := hid (B3.out.trans (hb3.mono B3.out.size))
  have KA := hid (K0.out.below hb3)
  have KB := hid (K1.out.below hb3)
  have KC := hid (K2.out.below hb3)
  clear hf hb3 p0 p2 s0 s1 s4
  obtain ⟨p0, _, p2⟩ := KA.out.one
  obtain ⟨s0, s1, _, _, s4⟩ := KB.out.two
  obtain ⟨q0, q1, q2, q3, q4⟩ := KC.out.two
  have hs3 := HB3.out.size
  cases bb with
  | false =>
    have hok := hid (okF_no (x := x) (HF.out.no rfl))
    have r0 := fun n => (put_drewN KC.out (.int .i64 0) (.slice none 0 0) n).1
    have r1 := fun n => (put_drewN KC.out (.int .i64 0) (.slice none 0 0) n).2
    go_wp2
    go_quiet (fail)
    go_wp2
    exact bodyPost_ret (v := .tuple #[.agg #[.int .i64 0, .slice none 0 0], .bool false]) (by simp [results, Try.results57, go_sem, r0, r1]) rfl ⟨(0, []), false, none, 0, rfl, ⟨hok.out, fun e => (by cases e), fun _ => rfl⟩, rel_none _ _ _, ((Below.drewN HB3.out).setCell (by simp; omega) _).setCell (by simp; omega) _⟩
  | true =>
    obtain ⟨hp, hpn⟩ := HF.out.yes rfl
    have HPN := hid hpn
    obtain ⟨bt, ot, at', capt, he, hlb, hbt, d0, d1, d2, rx⟩ := tables_at (HE.out.grow good_table HB3.out hh) p hp
    subst he
    have hp' : (p : Int) < (ts.length : Int) := by omega
    have hp0 : (0 : Int) ≤ (p : Int) := by omega
    have hok := okF_at (x := x) HA.out hp HPN.out
    have HOK := hid hok
    have hbt3 : bt < w3.heap.size := by omega
    clear hpn hok
    by_cases har : ts[p].2.1 = (x.2.length : Int)
    · have t1 : (ts[p].2.1 != (x.2.length : Int)) = false := by simp [har]
      have HAR := hid har
      have HR := hid (rel_of_table rx)
      clear rx
      clear har
      have r0 := fun n => (put_drewN KC.out (.int .i64 ts[p].2.1) (.slice at' ts[p].2.2.length capt) n).1
      have r1 := fun n => (put_drewN KC.out (.int .i64 ts[p].2.1) (.slice at' ts[p].2.2.length capt) n).2
      have HBF := hid (fun n => ((Below.drewN (n := n) (Below.refl w.heap.size w3)).setCell (p := ⟨w.heap.size + 1 + 1, 0, none⟩) (by simp; omega) (.int .i64 ts[p].2.1)).setCell (p := ⟨w.heap.size + 1 + 1, 1, none⟩) (by simp; omega) (.slice at' ts[p].2.2.length capt))
      go_wp2
      go_quiet (fail)
      go_wp2
      exact bodyPost_ret (v := .tuple #[.agg #[.int .i64 ts[p].2.1, .slice at' ts[p].2.2.length capt], .bool true]) (by simp [results, Try.results57, go_sem, r0, r1]) rfl ⟨ts[p].2, true, at', capt, rfl, ⟨by rw [HOK.out]; simpa using HAR.out, fun _ => ⟨p, hp, HPN.out, rfl, HAR.out⟩, fun e => (by cases e)⟩, good_rel.keep HR.out (sm_below (HBF.out _) hh), ((Below.drewN HB3.out).setCell (by simp; omega) _).setCell (by simp; omega) _⟩
    · have t1 : (ts[p].2.1 != (x.2.length : Int)) = true := by simp [har]
      have HOF := hid (show okF ts x = false by rw [HOK.out]; simpa using har)
      clear har rx
      have r0 := fun n => (put_drewN KC.out (.int .i64 0) (.slice none 0 0) n).1
      have r1 := fun n => (put_drewN KC.out (.int .i64 0) (.slice none 0 0) n).2
      go_wp2
      go_quiet (fail)
      go_wp2
      exact bodyPost_ret (v := .tuple #[.agg #[.int .i64 0, .slice none 0 0], .bool false]) (by simp [results, Try.results57, go_sem, r0, r1]) rfl ⟨(0, []), false, none, 0, rfl, ⟨HOF.out, fun e => (by cases e), fun _ => rfl⟩, rel_none _ _ _, ((Below.drewN HB3.out).setCell (by simp; omega) _).setCell (by simp; omega) _⟩
end Go.Proofs.Ytpeojpdgknamgaa.RelOf
