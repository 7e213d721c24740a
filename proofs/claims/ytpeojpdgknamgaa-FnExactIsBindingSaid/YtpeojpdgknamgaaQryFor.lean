/- Queries for a database: spec.LookupRelation, spec.IsQueryFor, impl.IsQueryFor. -/
import Derived.Test.YtpeojpdgknamgaaCopyS
import Derived.Test.YtpeojpdgknamgaaRelKit
import Derived.Test.YtpeojpdgknamgaaTabFind
import Derived.Test.YtpeojpdgknamgaaDbVI
import Derived.Test.YtpeojpdgknamgaaDbVS
import Derived.Test.YtpeojpdgknamgaaTableLaw
import Derived.Test.YtpeojpdgknamgaaQryVI
import Derived.Test.YtpeojpdgknamgaaQryVS
namespace Go.Proofs.Ytpeojpdgknamgaa.QryFor
open Go.RowKit
open Go.Proofs.Ytpeojpdgknamgaa.Grid Go.Proofs.Ytpeojpdgknamgaa.GridMore Go.Proofs.Ytpeojpdgknamgaa.GridLaw2 Go.Proofs.Ytpeojpdgknamgaa.RelKit
open Go.Proofs.Ytpeojpdgknamgaa.Num Go.Proofs.Ytpeojpdgknamgaa.IntRow Go.Proofs.Ytpeojpdgknamgaa.Rdr Go.Proofs.Ytpeojpdgknamgaa.Dat Go.Proofs.Ytpeojpdgknamgaa.HasL Go.Proofs.Ytpeojpdgknamgaa.QryP Go.Proofs.Ytpeojpdgknamgaa.DbP Go.Proofs.Ytpeojpdgknamgaa.TabFind Go.Proofs.Ytpeojpdgknamgaa.DbVI Go.Proofs.Ytpeojpdgknamgaa.DbVS Go.Proofs.Ytpeojpdgknamgaa.QryVI Go.Proofs.Ytpeojpdgknamgaa.QryVS Go.Proofs.Ytpeojpdgknamgaa.CopyS Go.Proofs.Ytpeojpdgknamgaa.GridLaw Go.Proofs.Ytpeojpdgknamgaa.TableLaw
set_option linter.unusedVariables false

/-- The database has the relation of an atom, with as many columns. -/
def okF (ts : List TableD) (x : AtomD) : Bool := ts.any fun t => (t.1.toList == x.1.toList) && decide (t.2.1 = (x.2.length : Int))
def qf (ts : List TableD) (x : QueryD) : Bool := (vq x && vDb ts) && x.2.1.all (okF ts)
theorem okF_at {ts : List TableD} {x : AtomD} (ha : AscN ts) {p : Nat} (hp : p < ts.length) (hn : ts[p].1.toList = x.1.toList) : okF ts x = decide (ts[p].2.1 = (x.2.length : Int)) := by
  cases h : okF ts x with
  | true =>
    unfold okF at h
    rw [List.any_eq_true] at h
    obtain ⟨t, ht, he⟩ := h
    obtain ⟨j, hj, rfl⟩ := List.getElem_of_mem ht
    simp only [Bool.and_eq_true, beq_iff_eq, decide_eq_true_eq] at he
    have e : j = p := by
      rcases Nat.lt_trichotomy j p with h1 | h1 | h1
      · have := ha j p hj hp h1; rw [he.1, hn] at this; exact absurd this (List.lt_irrefl _)
      · exact h1
      · have := ha p j hp hj h1; rw [he.1, hn] at this; exact absurd this (List.lt_irrefl _)
    subst e
    simpa using he.2
  | false =>
    unfold okF at h
    rw [List.any_eq_false] at h
    have := h ts[p] (List.getElem_mem hp)
    simp only [hn, beq_self_eq_true, Bool.true_and] at this
    simpa using this
theorem okF_no {ts : List TableD} {x : AtomD} (h : ∀ j (h : j < ts.length), ts[j].1.toList ≠ x.1.toList) : okF ts x = false := by
  unfold okF
  rw [List.any_eq_false]
  intro t ht
  obtain ⟨j, hj, rfl⟩ := List.getElem_of_mem ht
  have := h j hj
  simp [this]
theorem qf_at {ts : List TableD} {x : QueryD} (k : Nat) (hk : k < x.2.1.length) (h : okF ts x.2.1[k] = false) : qf ts x = false := by simp only [qf, all_no k hk h, Bool.and_false]
theorem qf_all {ts : List TableD} {x : QueryD} (h : ∀ j (h : j < x.2.1.length), okF ts x.2.1[j] = true) : qf ts x = (vq x && vDb ts) := by simp only [qf, all_yes h, Bool.and_true]
theorem qf_db {ts : List TableD} {x : QueryD} (h : vDb ts = false) : qf ts x = false := by simp [qf, h]
theorem qf_q {ts : List TableD} {x : QueryD} (h : vq x = false) : qf ts x = false := by simp [qf, h]

/-! ### the model's -/
structure LkP (ts : List TableD) (s : List UInt8) (ar : Int) (f : Bool) : Prop where
  yes : f = true → ∃ p, ∃ h : p < ts.length, ts[p].1.toList = s ∧ ts[p].2.1 = ar
  no : f = false → vDb ts = true → ∀ j (h : j < ts.length), ts[j].1.toList ≠ s
  bad : vDb ts = false → f = false
def Lk (ts : List TableD) (s : List UInt8) (w : World) (e : Ending) (w' : World) : Prop := ∃ (ar : Int) (a : Option Addr) (n cap : Nat) (f : Bool), e = .returned (.tuple #[.agg #[.int .i64 ar, .slice a n cap], .bool f]) ∧ LkP ts s ar f ∧ Below w.heap.size w w'
/-- What a look-up gives: the table's relation where the database is valid and has it. -/
structure LkS (ts : List TableD) (s : List UInt8) (r : RelD) (f : Bool) : Prop where
  yes : f = true → vDb ts = true ∧ ∃ p, ∃ h : p < ts.length, ts[p].1.toList = s ∧ ts[p].2 = r
  no : f = false → r = (0, []) ∧ (vDb ts = true → ∀ j (h : j < ts.length), ts[j].1.toList ≠ s)
def Lks (ts : List TableD) (s : List UInt8) (w : World) (e : Ending) (w' : World) : Prop := ∃ (r : RelD) (f : Bool) (a : Option Addr) (cap : Nat) (vs : List Value), e = .returned (.tuple #[.agg #[.int .i64 r.1, .slice a r.2.length cap], .bool f]) ∧ LkS ts s r f ∧ GOwn w' w.heap.size eR eI (.slice a r.2.length cap) vs r.2 ∧ Below w.heap.size w w'
def lkr (ts : List TableD) (s : List UInt8) : RelD × Bool := if vDb ts = true then (match ts.find? (fun t => t.1.toList == s) with | some t => (t.2, true) | none => ((0, []), false)) else ((0, []), false)
theorem lks_eq {ts : List TableD} {s : List UInt8} {r : RelD} {f : Bool} (h : LkS ts s r f) : (r, f) = lkr ts s := by
  unfold lkr
  cases f with
  | false =>
    obtain ⟨rfl, h2⟩ := h.no rfl
    by_cases hv : vDb ts = true
    · rw [if_pos hv]
      have : ts.find? (fun t => t.1.toList == s) = none := by
        rw [List.find?_eq_none]
        intro t ht
        obtain ⟨j, hj, rfl⟩ := List.getElem_of_mem ht
        simpa using h2 hv j hj
      rw [this]
    · rw [if_neg hv]
  | true =>
    obtain ⟨hv, p, hp, h3, h4⟩ := h.yes rfl
    rw [if_pos hv]
    cases hf : ts.find? (fun t => t.1.toList == s) with
    | none =>
      rw [List.find?_eq_none] at hf
      exact absurd (by simpa using h3) (hf ts[p] (List.getElem_mem hp))
    | some t =>
      have h5 := List.find?_some hf
      obtain ⟨j, hj, h6⟩ := List.getElem_of_mem (List.mem_of_find?_eq_some hf)
      have ha := asc_of hv
      have e : j = p := by
        have h7 : ts[j].1.toList = s := by rw [h6]; simpa using h5
        rcases Nat.lt_trichotomy j p with h1 | h1 | h1
        · have := ha j p hj hp h1; rw [h7, h3] at this; exact absurd this (List.lt_irrefl _)
        · exact h1
        · have := ha p j hp hj h1; rw [h7, h3] at this; exact absurd this (List.lt_irrefl _)
      subst e
      rw [← h4, h6]
set_option maxRecDepth 100000 in
set_option maxHeartbeats 4000000 in
theorem spec_look (cs : List Value) (ts : List TableD) (s : ByteArray) (lo hi : Nat) (w : World) (hs : szD ts ≤ 1048576) (h : rDb w lo hi cs ts) (hh : hi ≤ w.heap.size) :
    Calls Try.prog 18 #[.agg cs.toArray, .string s] w (Lks ts s.toList w) := by
  obtain ⟨a, cap, hcs, _, hels⟩ := db_open h
  subst hcs
  have K0 := hid ((hasl_new w [.slice a ts.length cap] 44).alloc (.cells #[.int .i64 0, .slice none 0 0] 27))
  have K1 := hid (hasl_new (w.alloc (.cells #[.slice a ts.length cap] 44)) [.int .i64 0, .slice none 0 0] 27)
  have B2 := hid (((Below.refl w.heap.size w).alloc (Nat.le_refl _) (.cells #[.slice a ts.length cap] 44)).alloc (by simp) (.cells #[.int .i64 0, .slice none 0 0] 27))
  have hn1 : ts.length ≤ 1048576 := by have := tots_len szT ts; unfold szD at hs; omega
  simp only [World.size_alloc] at K1
  have HS := hid (table_le hs)
  have HE := hid hels
  obtain ⟨vd, hvd⟩ : ∃ z, vDb ts = z := ⟨_, rfl⟩
  have V := hid (fun W (hW : Below w.heap.size w W) => by
    have := spec_vdb _ ts lo hi W hs (good_db.keep h (sm_below hW hh)) (Nat.le_trans hh hW.size)
    rw [hvd] at this
    exact this)
  have HV := hid hvd
  clear h hels hs hvd
  go_enter Try.func18, Try.ntmps18
  go_wp2
  go_loopw [6] (fun i wr => ∃ k : Nat, k ≤ ts.length ∧ i = .int .i64 k ∧ Hid (∀ j (h : j < ts.length), j < k → ts[j].1.toList ≠ s.toList) ∧ Hid (HasL wr w.heap.size [.slice a ts.length cap]) ∧ Hid (HasL wr (w.heap.size + 1) [.int .i64 0, .slice none 0 0]) ∧ Hid (Below w.heap.size w wr)) (fun i _ => ts.length - (intOf i).toNat)
  case atStart => exact ⟨0, Nat.zero_le _, rfl, hid (fun j _ h => by omega), K0, K1, B2⟩
  case round =>
    obtain ⟨k, hk, rfl, hno, k0, k1, hb⟩ := hrel
    obtain ⟨p0, _, p2⟩ := k0.out.one
    by_cases hlt : k < ts.length
    · have hlt' : (k : Int) < (ts.length : Int) := by omega
      have h0' : (0 : Int) ≤ (k : Int) := by omega
      have hsz := hb.out.size
      cases vd with
      | false =>
        go_wp2_with fail
        refine (V.out _ hb.out).mono ?_
        rintro e w2 ⟨rfl, hb2⟩
        have HB := hid (hb.out.trans (hb2.mono hsz))
        have K := hid (k1.out.below hb2)
        obtain ⟨q0, q1, q2, q3, q4⟩ := K.out.two
        obtain ⟨r0, r1, _, _, _⟩ := HasL.two ((K.out.put 0 (.int .i64 0)).put 1 (.slice none 0 0))
        clear hb2
        go_wp2
        exact bodyPost_ret (v := .tuple #[.agg #[.int .i64 0, .slice none 0 0], .bool false]) (by simp [results, Try.results18, go_sem, r0, r1]) rfl ⟨(0, []), false, none, 0, [], rfl, ⟨fun e => (by cases e), fun _ => ⟨rfl, fun e => by rw [HV.out] at e; cases e⟩⟩, GOwn.nil _ _ _ _, (HB.out.setCell (by simp) _).setCell (by simp) _⟩
      | true =>
        obtain ⟨b, off, aj, capj, he, _, hbB, _, _, _, rx⟩ := tables_at (HE.out.grow good_table hb.out hh) k hlt
        subst he
        cases heq : (ts[k].1.toList == s.toList) with
        | false =>
          have HN := hid (show ∀ j (h : j < ts.length), j < k + 1 → ts[j].1.toList ≠ s.toList from fun j hj hjk => by
            by_cases e : j = k
            · subst e; simpa using heq
            · exact hno.out j hj (by omega))
          clear rx
          go_wp2_with fail
          refine (V.out _ hb.out).mono ?_
          rintro e w2 ⟨rfl, hb2⟩
          have HB := hid (hb.out.trans (hb2.mono hsz))
          have KA := hid (k0.out.below hb2)
          have KB := hid (k1.out.below hb2)
          obtain ⟨q0, _, q2⟩ := KA.out.one
          obtain ⟨b2, off2, aj2, capj2, he2, _, _, c0, c1, c2, _⟩ := tables_at (HE.out.grow good_table HB.out hh) k hlt
          simp only [Option.some.injEq, Addr.mk.injEq, and_true] at he2
          obtain ⟨rfl, rfl⟩ := he2
          clear hb2
          go_wp2
          go_roundw
          case rel => exact ⟨k + 1, by omega, by go_num, HN, KA, KB, HB⟩
          case measure => simp [intOf]; omega
        | true =>
          have HQ := hid (show ts[k].1.toList = s.toList by simpa using heq)
          have htot : tot ts[k].2.2 ≤ 1048576 := by
            have := HS.out k hlt
            rw [← szG_tot]
            unfold szT at this
            omega
          clear rx
          go_wp2_with fail
          refine (V.out _ hb.out).mono ?_
          rintro e w2 ⟨rfl, hb2⟩
          have HB := hid (hb.out.trans (hb2.mono hsz))
          have KA := hid (k0.out.below hb2)
          have KB := hid (k1.out.below hb2)
          obtain ⟨q0, _, q2⟩ := KA.out.one
          obtain ⟨b2, off2, aj2, capj2, he2, _, hbB2, c0, c1, c2, rx2⟩ := tables_at (HE.out.grow good_table HB.out hh) k hlt
          simp only [Option.some.injEq, Addr.mk.injEq, and_true] at he2
          obtain ⟨rfl, rfl⟩ := he2
          obtain ⟨aa, cc, hcs, _, _, rr⟩ := table_open rx2
          simp only [List.cons.injEq, Value.slice.injEq, and_true, true_and] at hcs
          obtain ⟨rfl, rfl⟩ := hcs
          have hsz2 := HB.out.size
          have C := hid (spec_copy ts[k].2.1 aj2 capj2 hi ts[k].2.2 w2 htot (grd_of rr) (by omega))
          clear hb2 rx2 rr
          go_wp2_with fail
          refine C.out.mono ?_
          rintro e w3 ⟨ac, capc, vs, rfl, hown, hb3⟩
          have hlo : w.heap.size + 2 ≤ w2.heap.size := by have := KB.out.1; omega
          have HG := hid ((gown_set (gown_set (o := 0) hown (b := w.heap.size + 1) (by omega) (.int .i64 ts[k].2.1)) (o := 1) (b := w.heap.size + 1) (by omega) (.slice ac ts[k].2.2.length capc)).mono (show w.heap.size ≤ w2.heap.size by omega))
          have HB3 := hid (HB.out.trans (hb3.mono hsz2))
          have K := hid (KB.out.below hb3)
          obtain ⟨u0, u1, u2, u3, u4⟩ := K.out.two
          obtain ⟨r0, r1, _, _, _⟩ := HasL.two ((K.out.put 0 (.int .i64 ts[k].2.1)).put 1 (.slice ac ts[k].2.2.length capc))
          clear hb3 hown
          go_wp2
          exact bodyPost_ret (v := .tuple #[.agg #[.int .i64 ts[k].2.1, .slice ac ts[k].2.2.length capc], .bool true]) (by simp [results, Try.results18, go_sem, r0, r1]) rfl ⟨ts[k].2, true, ac, capc, vs, rfl, ⟨fun _ => ⟨HV.out, k, hlt, HQ.out, rfl⟩, fun e => (by cases e)⟩, HG.out, (HB3.out.setCell (by simp) _).setCell (by simp) _⟩
    · obtain ⟨q0, q1, q2, q3, q4⟩ := k1.out.two
      obtain ⟨r0, r1, _, _, _⟩ := HasL.two ((k1.out.put 0 (.int .i64 0)).put 1 (.slice none 0 0))
      go_wp2
      exact bodyPost_ret (v := .tuple #[.agg #[.int .i64 0, .slice none 0 0], .bool false]) (by simp [results, Try.results18, go_sem, r0, r1]) rfl ⟨(0, []), false, none, 0, [], rfl, ⟨fun e => (by cases e), fun _ => ⟨rfl, fun _ j hj => hno.out j hj (by omega)⟩⟩, GOwn.nil _ _ _ _, (hb.out.setCell (by simp) _).setCell (by simp) _⟩
theorem spec_lookup (cs : List Value) (ts : List TableD) (s : ByteArray) (lo hi : Nat) (w : World) (hs : szD ts ≤ 1048576) (h : rDb w lo hi cs ts) (hh : hi ≤ w.heap.size) :
    Calls Try.prog 18 #[.agg cs.toArray, .string s] w (Lk ts s.toList w) :=
  (spec_look cs ts s lo hi w hs h hh).mono fun e w' ⟨r, f, a, cap, vs, h1, h2, h3, h4⟩ => ⟨r.1, a, r.2.length, cap, f, h1, ⟨fun e => by obtain ⟨_, p, hp, k1, k2⟩ := h2.yes e; exact ⟨p, hp, k1, by rw [k2]⟩, fun e => (h2.no e).2, fun e => by
    cases f with
    | false => rfl
    | true => have := (h2.yes rfl).1; rw [e] at this; cases this⟩, h4⟩
end Go.Proofs.Ytpeojpdgknamgaa.QryFor
