/- slices.SortFunc at the nil slice of rows; impl.NewRelation of no rows at all. -/
import Derived.Test.YtffhfnkcbgbliaaNewRI
namespace Go.Proofs.Ytffhfnkcbgbliaa.SortNil
open Go.RowKit
open Go.Proofs.Ytffhfnkcbgbliaa.Num Go.Proofs.Ytffhfnkcbgbliaa.IntRow Go.Proofs.Ytffhfnkcbgbliaa.IntLaw Go.Proofs.Ytffhfnkcbgbliaa.Grid Go.Proofs.Ytffhfnkcbgbliaa.GridMore Go.Proofs.Ytffhfnkcbgbliaa.GridLaw Go.Proofs.Ytffhfnkcbgbliaa.GridLaw2 Go.Proofs.Ytffhfnkcbgbliaa.Keep Go.Proofs.Ytffhfnkcbgbliaa.Kept Go.Proofs.Ytffhfnkcbgbliaa.Cells Go.Proofs.Ytffhfnkcbgbliaa.RelKit Go.Proofs.Ytffhfnkcbgbliaa.Asc Go.Proofs.Ytffhfnkcbgbliaa.RelValidI Go.Proofs.Ytffhfnkcbgbliaa.Clones Go.Proofs.Ytffhfnkcbgbliaa.SrtD Go.Proofs.Ytffhfnkcbgbliaa.Compact Go.Proofs.Ytffhfnkcbgbliaa.LibRows
set_option linter.unusedVariables false

theorem ins_nil (c : Value) (w : World) : Calls Try.prog 84 #[.slice none 0 0, .int .i64 0, .int .i64 0, c] w fun e w' => e = .returned (.tuple #[]) ∧ w = w' := by
  go_enter Try.func84, Try.ntmps84
  go_wp2
  go_loop [8, 9] (fun i _ => i = .int .i64 1) (fun _ _ => 0)
  case atStart => rfl
  case round =>
    obtain rfl := hrel
    go_wp2
    go_end0
    exact ⟨rfl, rfl⟩
set_option maxRecDepth 100000 in
theorem pdq_nil (c : Value) (w : World) : Calls Try.prog 75 #[.slice none 0 0, .int .i64 0, .int .i64 0, .int .i64 0, c] w fun e w' => e = .returned (.tuple #[]) ∧ w = w' := by
  have C := hid (ins_nil c w)
  go_enter Try.func75, Try.ntmps75
  go_wp2
  go_loop [1, 2, 3, 10, 11] (fun s1 s2 s3 a b => s1 = .int .i64 0 ∧ s2 = .int .i64 0 ∧ s3 = .int .i64 0 ∧ a = .bool true ∧ b = .bool true) (fun _ _ _ _ _ => 0)
  case atStart => exact ⟨rfl, rfl, rfl, rfl, rfl⟩
  case round =>
    obtain ⟨rfl, rfl, rfl, rfl, rfl⟩ := hrel
    go_wp2_with fail
    with_reducible refine C.out.mono ?_
    rintro e w' ⟨rfl, rfl⟩
    go_wp2
    exact bodyPost_ret (results_none rfl _ _ _) rfl ⟨rfl, rfl⟩
set_option maxRecDepth 100000 in
theorem len_zero (w : World) : Calls Try.prog 76 #[.int .u64 0] w fun e w' => e = .returned (.int .i64 0) ∧ w = w' := by
  have h8 : Lib.len8 0 = 0 := by decide
  go_enter Try.func76, Try.ntmps76
  go_wp2
  go_ret
  exact ⟨rfl, rfl⟩
set_option maxRecDepth 100000 in
theorem sort_nil (w : World) : Calls Try.prog 59 #[.slice none 0 0, .func (.func 60) #[] #[]] w fun e w' => e = .returned (.tuple #[]) ∧ w = w' := by
  have L := hid (len_zero w)
  have C := hid (pdq_nil (.func (.func 60) #[] #[]) w)
  go_enter Try.func59, Try.ntmps59
  go_wp2_with fail
  with_reducible refine L.out.mono ?_
  rintro e w' ⟨rfl, rfl⟩
  go_wp2_with fail
  with_reducible refine C.out.mono ?_
  rintro e w' ⟨rfl, rfl⟩
  go_wp2
  go_end0
  exact ⟨rfl, rfl⟩

set_option maxRecDepth 100000 in
set_option maxHeartbeats 4000000 in
/-- impl.NewRelation of the nil slice. -/
theorem impl_new0 (n : Int) (w : World) :
    Calls Try.prog 37 #[.int .i64 n, .slice none 0 0] w fun e w' => ∃ a' c' vs, e = .returned (.tuple #[.agg #[.int .i64 (newN n []), .slice a' (newR n []).length c'], .bool (newOk n [])]) ∧ GOwn w' w.heap.size eR eI (.slice a' (newR n []).length c') vs (newR n []) ∧ Below w.heap.size w w' := by
  obtain ⟨zss, hzs⟩ : ∃ z, newR n [] = z := ⟨_, rfl⟩
  obtain ⟨nn, hnn⟩ : ∃ z, newN n [] = z := ⟨_, rfl⟩
  obtain ⟨ok, hok⟩ : ∃ z, newOk n [] = z := ⟨_, rfl⟩
  rw [hzs, hnn, hok]
  have HZ := hid hzs
  have HN := hid hnn
  have HO := hid hok
  have K3 := hid (has2_new w (.int .i64 0) (.slice none 0 0) 30)
  have B3 := hid ((Below.refl w.heap.size w).alloc (Nat.le_refl _) (.cells #[.int .i64 0, .slice none 0 0] 30))
  have C := hid (fun W => clone_nil 0 W)
  have S := hid (fun W => sort_nil W)
  have T := hid (fun W => compact_nil W)
  clear hzs hnn hok
  go_enter Try.func37, Try.ntmps37
  go_wp2_with fail
  with_reducible refine (C.out _).mono ?_
  rintro e w1 ⟨rfl, rfl⟩
  go_wp2_with fail
  with_reducible refine (S.out _).mono ?_
  rintro e w1 ⟨rfl, rfl⟩
  go_wp2_with fail
  with_reducible refine (T.out _).mono ?_
  rintro e w1 ⟨rfl, rfl⟩
  replace K3 := hid (K3.out.alloc (.cells #[.int .i64 n, .slice none 0 0] 30))
  have K7 := hid (has2_new (w.alloc (.cells #[.int .i64 0, .slice none 0 0] 30)) (.int .i64 n) (.slice none 0 0) 30)
  replace B3 := hid (B3.out.alloc B3.out.size (.cells #[.int .i64 n, .slice none 0 0] 30))
  simp only [World.size_alloc] at K7
  have V := hid (impl_valid n none 0 0 w.heap.size [] _ rfl (by omega) (fun j h => by simp at h) (GRd.nil _ _ _) B3.out.size)
  have hv2 : vrel n [] = ok := HO.out
  rw [hv2] at V
  clear hv2
  go_wp2_with fail
  with_reducible refine V.out.mono ?_
  rintro e w5 ⟨rfl, hb⟩
  have hs5 := hb.size
  simp only [World.size_alloc] at hs5
  replace K3 := hid (K3.out.below hb)
  replace K7 := hid (K7.out.below hb)
  replace B3 := hid (B3.out.trans (hb.mono B3.out.size))
  clear hb V
  obtain ⟨d0, d1, z2, _, _⟩ := K7.out
  obtain ⟨e0, e1, z3, _, _⟩ := K3.out
  cases ok with
  | false =>
    obtain rfl : [] = zss := (new_no HO.out).1.symm.trans HZ.out
    obtain rfl : 0 = nn := (new_no HO.out).2.symm.trans HN.out
    have hset := has2_set (u := .int .i64 0) (v := .slice none 0 0) K3.out
    go_wp2
    exact bodyPost_ret (v := .tuple #[.agg #[.int .i64 0, .slice none 0 0], .bool false]) (by simp [results, Try.results37, go_sem, hset.1, hset.2.1]) rfl ⟨none, 0, [], rfl, GOwn.nil _ _ _ _, (B3.out.setCell (by simp) _).setCell (by simp) _⟩
  | true =>
    obtain rfl : [] = zss := (new_yes HO.out).1.symm.trans HZ.out
    obtain rfl : n = nn := (new_yes HO.out).2.symm.trans HN.out
    have D0 := impl_clone n none 0 w.heap.size [] w5 (by decide) (GRd.nil _ _ _) (by omega)
    simp only [List.length_nil] at D0
    have D := hid D0
    clear D0
    go_wp2_with fail
    with_reducible refine D.out.mono ?_
    rintro e w6 ⟨g6, vs6, rfl, hg6, hown, hb⟩
    have hs6 := hb.size
    replace K3 := hid (K3.out.below hb)
    replace B3 := hid (B3.out.trans (hb.mono B3.out.size))
    have HO6 := hid hown
    clear hb hown D d0 d1 z2 e0 e1 z3
    obtain ⟨e0, e1, z3, _, _⟩ := K3.out
    have hset := has2_set (u := .int .i64 n) (v := .slice (some ⟨g6, 0, none⟩) 0 0) K3.out
    go_wp2
    refine bodyPost_ret (v := .tuple #[.agg #[.int .i64 n, .slice (some ⟨g6, 0, none⟩) 0 0], .bool true]) (by simp [results, Try.results37, go_sem, hset.1, hset.2.1]) rfl ⟨some ⟨g6, 0, none⟩, 0, vs6, rfl, ?_, ?_⟩
    · exact gown_mono (gown_set (gown_set HO6.out (by omega) _) (by omega) _) (by omega)
    · exact (B3.out.setCell (by simp) _).setCell (by simp) _
end Go.Proofs.Ytffhfnkcbgbliaa.SortNil
