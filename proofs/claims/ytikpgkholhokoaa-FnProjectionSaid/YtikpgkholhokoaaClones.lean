/- Copies of rows and grids, the program's (slices.Clone, impl.cloneRows, impl.cloneRelation). -/
import Derived.Test.YtikpgkholhokoaaGridLaw2
import Derived.Test.YtikpgkholhokoaaCells
import Derived.Test.YtikpgkholhokoaaRelKit
import Derived.Deep.RegionHeld3
import Derived.Deep.DeepCutAuto
import Derived.Lib.SliceRun
namespace Go.Proofs.Ytikpgkholhokoaa.Clones
open Go.RowKit
open Go.Proofs.Ytikpgkholhokoaa.Num Go.Proofs.Ytikpgkholhokoaa.IntRow Go.Proofs.Ytikpgkholhokoaa.IntLaw Go.Proofs.Ytikpgkholhokoaa.Grid Go.Proofs.Ytikpgkholhokoaa.GridMore Go.Proofs.Ytikpgkholhokoaa.GridLaw Go.Proofs.Ytikpgkholhokoaa.GridLaw2 Go.Proofs.Ytikpgkholhokoaa.Keep Go.Proofs.Ytikpgkholhokoaa.Kept Go.Proofs.Ytikpgkholhokoaa.Cells Go.Proofs.Ytikpgkholhokoaa.RelKit
set_option linter.unusedVariables false

set_option maxRecDepth 100000 in
/-- slices.Clone at a row: a row of the call's own, or nil. -/
theorem lib_clone (a : Option Addr) (cap B : Nat) (xs : List Int) (w : World) (hn : xs.length ≤ 1048576) (h : Rd w B a xs) (hB : B ≤ w.heap.size) :
    Calls Try.prog 69 #[.slice a xs.length cap] w fun e w' => ∃ v, e = .returned v ∧ Own w' w.heap.size 3 v xs ∧ Below w.heap.size w w' := by
  obtain ⟨i0, hi, hz0, hz1, hz2⟩ := info_parts IntLaw.info
  have q : ∀ (w : World) (a : Option Addr) (n c n' c' : Nat), (binOp .eql 27 (.slice a n c) (.slice none n' c')).run Try.prog w = .ok (.bool a.isNone) w := fun w a n c n' c' => Lib.run_eql_slice_nil w _ _ a n c n' c' Try.underlying27
  cases a with
  | none =>
    obtain rfl : xs = [] := by
      cases xs with
      | nil => rfl
      | cons x l => obtain ⟨b, off, e, _⟩ := h (by simp); cases e
    clear h
    go_enter Try.func69, Try.ntmps69
    go_wp2
    go_ret
    exact ⟨_, rfl, Own.nil _ _ _, Below.refl _ _⟩
  | some p =>
    have HR := hid h
    clear h
    go_enter Try.func69, Try.ntmps69
    go_wp2_with (at_builtin; refine wpList_append_own _ rfl _ _ 27 rfl w.heap.size 3 i0 (.int .i64 0) 1 8 Try.underlying27 hi hz0 hz1 hz2 rfl (by decide) _ _ _ rfl (World.ownsRow_made w #[] 0 (Nat.le_refl _) (Nat.zero_le _) rfl) p xs.length cap (ic xs) rfl ?qc1 ?qc2 ?qc3 ?qc4 ?qc5 ?qc6 ?_)
    case qc1 => simp [ic_length]
    case qc2 =>
      intro j u hj
      have hjn : j < xs.length := by
        have := (List.getElem?_eq_some_iff.1 hj).1
        rwa [ic_length] at this
      obtain ⟨b, off, e, hb, hc⟩ := HR.out (by omega)
      obtain rfl : p = ⟨b, off, none⟩ := by injection e
      rw [ic_at xs j hjn] at hj
      injection hj with hj
      subst hj
      rw [Addr.add_lit]
      exact (World.cell?_alloc_lt _ _ _ (by show b < _; omega)).trans (hc j hjn)
    case qc3 => intro u hu; obtain ⟨x, _, rfl⟩ := List.mem_map.1 hu; rfl
    case qc4 => unfold maxLen; omega
    case qc5 => omega
    case qc6 => simp
    intro v' w1 hown hgrow hnil
    go_wp2
    go_ret
    refine ⟨v', rfl, by simpa [Own] using hown, ?_⟩
    exact ((Below.refl _ w).alloc (Nat.le_refl _) _).grown hgrow (by simp) (by intro k hk; simp [Value.ownBlock] at hk; omega)

set_option maxRecDepth 100000 in
/-- impl.cloneRows: a grid of the call's own, whose capacity is its length. -/
theorem clone_rows (a : Option Addr) (cap B : Nat) (xss : List (List Int)) (w : World) (hn : tot xss ≤ 1048576) (h : GRd w B a xss) (hB : B ≤ w.heap.size) :
    Calls Try.prog 56 #[.slice a xss.length cap] w fun e w' => ∃ g vs, e = .returned (.slice (some ⟨g, 0, none⟩) xss.length xss.length) ∧ w.heap.size ≤ g ∧ GOwn w' g eR eI (.slice (some ⟨g, 0, none⟩) xss.length xss.length) vs xss ∧ Below w.heap.size w w' := by
  have hn1 : xss.length ≤ 1048576 := len_le hn
  obtain ⟨i0, hi, hz0, hz1, hz2⟩ := info_parts GridLaw.info
  have hmk := make_rows (P := Try.prog) w 24 27 i0 Try.underlying24 hi hz0 hz1 hz2 xss.length (by omega)
  have hat0 := hid (rows_made w 27 3 xss.length (by omega))
  have HG := hid h
  clear h
  go_enter Try.func56, Try.ntmps56
  go_wp2
  go_loopw [4, 5, 11] (fun _ _ i wr => ∃ (k : Nat) (vs : List Value), k ≤ xss.length ∧ i = .int .i64 k ∧ Hid (GOwn wr w.heap.size eR eI (.slice (some ⟨w.heap.size, 0, none⟩) xss.length xss.length) vs (filledS xss k)) ∧ Hid (Below w.heap.size w wr)) (fun _ _ i _ => xss.length - (intOf i).toNat)
  case atStart => exact ⟨0, _, Nat.zero_le _, rfl, hid (by rw [filledS_zero]; exact hat0.out), hid ((Below.refl _ _).alloc (Nat.le_refl _) _)⟩
  case round =>
    obtain ⟨k, vs, hk, rfl, hown, hb⟩ := hrel
    have hfl := filledS_length xss k hk
    clear hmk
    by_cases hlt : k < xss.length
    · obtain ⟨b, off, rfl, hbB, hc⟩ := (HG.out.below (hb.out.mono hB)) (by omega)
      obtain ⟨aj, capj, g, r⟩ := hc k hlt
      have hrow : xss[k].length ≤ 1048576 := each_le hn k hlt
      have hsz := hb.out.size
      have T := hid (lib_clone aj capj B xss[k] wr hrow r (by omega))
      have hlt' : (k : Int) < (xss.length : Int) := by omega
      have h0' : (0 : Int) ≤ (k : Int) := by omega
      clear hc r
      go_wp2_with fail
      refine T.out.mono ?_
      rintro e w1 ⟨u, rfl, hat, hb1⟩
      have O1 := hown.out.below' hb1
      have hlt1 := hown.out.lt w.heap.size rfl
      have hst := hid (gown_store O1 hfl.symm eRI k (by omega) (hat.mono hsz) (fun i u' m hne hu hm hm' => by
        have h1 := (hown.out.lt_row hu m hm').2
        have h2 := (hat.lt m hm).1
        omega))
      rw [filledS_step xss k hlt] at hst
      obtain ⟨u0, c1⟩ : ∃ u, w1.cell? ⟨w.heap.size, k, none⟩ = some u := by
        have hjv : k < vs.length := by rw [hown.out.len, filledS_length xss k hk]; exact hlt
        have hca := O1.cellAt k (by rw [filledS_length xss k hk]; exact hlt)
        rw [Nat.zero_add, List.getElem?_eq_getElem hjv] at hca
        exact ⟨_, hca⟩
      have c2 := O1.free k
      rw [Nat.zero_add] at c2
      have HB := hid ((hb.out.trans (hb1.mono hsz)).setCell (p := ⟨w.heap.size, k, none⟩) (Nat.le_refl _) u)
      obtain ⟨au, capu, rfl, _⟩ := hat.form
      clear O1 hat hb1 hfl
      go_wp2_with fail
      go_roundw
      case rel => exact ⟨k + 1, _, by omega, by go_num, hst, HB⟩
      case measure => simp [intOf]; omega
    · have e : k = xss.length := by omega
      subst e
      have HO := hown.out
      rw [filledS_all] at HO
      have HO2 := hid HO
      clear HO hfl hown
      go_wp2
      go_ret
      exact ⟨_, vs, rfl, Nat.le_refl _, HO2.out, hb.out⟩

set_option maxRecDepth 100000 in
theorem impl_clone (n : Int) (a : Option Addr) (cap B : Nat) (xss : List (List Int)) (w : World) (hn : tot xss ≤ 1048576) (h : GRd w B a xss) (hB : B ≤ w.heap.size) :
    Calls Try.prog 46 #[.agg #[.int .i64 n, .slice a xss.length cap]] w fun e w' => ∃ g vs, e = .returned (.agg #[.int .i64 n, .slice (some ⟨g, 0, none⟩) xss.length xss.length]) ∧ w.heap.size ≤ g ∧ GOwn w' g eR eI (.slice (some ⟨g, 0, none⟩) xss.length xss.length) vs xss ∧ Below w.heap.size w w' := by
  obtain ⟨c0, c1, _, _, _⟩ := ((has2_new w (.int .i64 n) (.slice a xss.length cap) 26).alloc (.cells #[.int .i64 0, .slice none 0 0] 26)).drew
  have K2 := hid (has2_new (w.alloc (.cells #[.int .i64 n, .slice a xss.length cap] 26)) (.int .i64 0) (.slice none 0 0) 26).drew
  simp only [World.size_alloc] at K2
  have hk0 := kp_two w (.cells #[.int .i64 n, .slice a xss.length cap] 26) (.cells #[.int .i64 0, .slice none 0 0] 26)
  have HG := hid h
  clear h
  go_enter Try.func46, Try.ntmps46
  go_wp2_with fail
  go_region_held3 (fun w' => w'.cell? ⟨w.heap.size, 0, none⟩ = some (.int .i64 n) ∧ w'.cell? ⟨w.heap.size, 1, none⟩ = some (.slice a xss.length cap) ∧ Kp w 2 w')
    (first
      | (go_split_ands
         repeat' apply And.intro
         all_goals (first | (with_reducible assumption) | (with_reducible exact cell_drew (by assumption)) | (with_reducible exact Kp.drew (by assumption)) | (with_reducible exact Kp.cell (by assumption) hb1 (by omega) (by assumption)) | (with_reducible exact Kp.call (by assumption) hb1) | (with_reducible exact cell_set (by assumption) (by omega)) | (with_reducible exact Keep.Kp.set (by assumption) (by omega) _ _))))
    (first
      | (go_split_ands; go_at_call 56; (with_reducible refine (clone_rows a cap B xss _ hn (HG.out.below (Below.mono (Kp.bel (n := 2) (by with_reducible assumption)) hB)) (by have hk1 := Kp.sz (w := w) (n := 2) (by with_reducible assumption); omega)).mono ?_); rintro e wC ⟨g, vs, rfl, hg, hown, hb1⟩; have HO := hid hown; have hz1 := hb1.size; have K3 := hid (K2.out.below hb1); obtain ⟨m0, m1, m2, m3, m4⟩ := K3.out))
  all_goals
    go_wp2_with fail
    go_split_ands
    have hset := Has2.set (u := .int .i64 n) (v := .slice (some ⟨g, 0, none⟩) xss.length xss.length) K3.out
    have hg2 : w.heap.size + 2 ≤ g := by simpa using hg
    refine bodyPost_ret (v := .agg #[.int .i64 n, .slice (some ⟨g, 0, none⟩) xss.length xss.length]) (by simp [results, Try.results46, go_sem, hset.1, hset.2]) rfl ⟨g, vs, rfl, by omega, ?_, ?_⟩
    · exact gown_set (gown_set HO.out (by omega) _) (by omega) _
    · exact Kp.bel (n := 2) (by with_reducible assumption)
end Go.Proofs.Ytikpgkholhokoaa.Clones
