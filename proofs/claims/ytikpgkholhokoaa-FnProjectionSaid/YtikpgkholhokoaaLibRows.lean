/- The library's slices.Clone and slices.SortFunc at rows of rows: the headers are the call's own, the rows lie elsewhere. -/
import Derived.Test.YtikpgkholhokoaaLays
import Derived.Test.YtikpgkholhokoaaHds
import Derived.Test.YtikpgkholhokoaaSortS
import Derived.Test.YtikpgkholhokoaaRowCmp
import Derived.Test.YtikpgkholhokoaaGridHd
import Derived.Lib.SliceRun
namespace Go.Proofs.Ytikpgkholhokoaa.LibRows
open Go.RowKit Go.Sort
open Go.Proofs.Ytikpgkholhokoaa.Num Go.Proofs.Ytikpgkholhokoaa.IntRow Go.Proofs.Ytikpgkholhokoaa.IntLaw Go.Proofs.Ytikpgkholhokoaa.Grid Go.Proofs.Ytikpgkholhokoaa.GridMore Go.Proofs.Ytikpgkholhokoaa.GridLaw Go.Proofs.Ytikpgkholhokoaa.GridLaw2 Go.Proofs.Ytikpgkholhokoaa.Keep Go.Proofs.Ytikpgkholhokoaa.Kept Go.Proofs.Ytikpgkholhokoaa.Cells Go.Proofs.Ytikpgkholhokoaa.RelKit Go.Proofs.Ytikpgkholhokoaa.GridApp Go.Proofs.Ytikpgkholhokoaa.GridAny Go.Proofs.Ytikpgkholhokoaa.Hds Go.Proofs.Ytikpgkholhokoaa.Mrg Go.Proofs.Ytikpgkholhokoaa.CmpL Go.Proofs.Ytikpgkholhokoaa.Asc Go.Proofs.Ytikpgkholhokoaa.RowCmp Go.Proofs.Ytikpgkholhokoaa.SortS Go.Proofs.Ytikpgkholhokoaa.GridHd
set_option linter.unusedVariables false

theorem grd_heads {w : World} {B : Nat} {a : Option Addr} {xss : List (List Int)} (h : GRd w B a xss) (ha : a = none → xss.length = 0) : ∃ vs, Hs w B vs xss ∧ Srcs w a xss.length vs := by
  by_cases hp : 0 < xss.length
  · obtain ⟨b, off, rfl, hb, hc⟩ := h hp
    have hc2 : ∀ j : Fin xss.length, ∃ p : Option Addr × Nat, w.cell? ⟨b, off + j.1, none⟩ = some (.slice p.1 (xss[j.1]).length p.2) ∧ Rd w B p.1 xss[j.1] := fun j => by
      obtain ⟨aj, capj, h1, h2⟩ := hc j.1 j.2
      exact ⟨(aj, capj), h1, h2⟩
    obtain ⟨f, hf⟩ := Classical.axiomOfChoice hc2
    refine ⟨List.ofFn fun j : Fin xss.length => .slice (f j).1 (xss[j.1]).length (f j).2, ⟨by simp, fun j hj => ⟨(f ⟨j, hj⟩).1, (f ⟨j, hj⟩).2, ?_, (hf ⟨j, hj⟩).2⟩⟩, by simp, fun u hu => ?_, .inr ⟨⟨b, off, none⟩, rfl, fun j u hu => ?_⟩⟩
    · rw [List.getElem?_eq_getElem (by simpa using hj), List.getElem_ofFn]
    · obtain ⟨j, rfl⟩ := List.mem_ofFn.1 hu
      rfl
    · have hj : j < xss.length := by simpa using (List.getElem?_eq_some_iff.1 hu).1
      rw [List.getElem?_eq_getElem (by simpa using hj), List.getElem_ofFn] at hu
      rw [← Option.some.inj hu, Addr.add_lit]
      exact (hf ⟨j, hj⟩).1
  · obtain rfl : xss = [] := List.eq_nil_of_length_eq_zero (by omega)
    refine ⟨[], Hs.nil _ _, rfl, by simp, ?_⟩
    cases a with
    | none => exact .inl ⟨rfl, rfl⟩
    | some p => exact .inr ⟨p, rfl, fun j u hu => by simp at hu⟩

set_option maxRecDepth 100000 in
/-- slices.Clone at rows of rows: not nil. -/
theorem lib_cloneR (p : Addr) (cap B : Nat) (xss : List (List Int)) (w : World) (hn : xss.length ≤ 1048576) (h : GRd w B (some p) xss) (hB : B ≤ w.heap.size) :
    Calls Try.prog 42 #[.slice (some p) xss.length cap] w fun e w' => ∃ g c vs, e = .returned (.slice (some ⟨g, 0, none⟩) xss.length c) ∧ w'.ownsRow w.heap.size eR 1 (.slice (some ⟨g, 0, none⟩) xss.length c) xss.length vs ∧ Hs w' B vs xss ∧ Below w.heap.size w w' := by
  obtain ⟨i1, hj, hy0, hy1, hy2⟩ := info_parts GridLaw.info
  have q : ∀ (w : World) (a : Option Addr) (n c n' c' : Nat), (binOp .eql 24 (.slice a n c) (.slice none n' c')).run Try.prog w = .ok (.bool a.isNone) w := fun w a n c n' c' => Lib.run_eql_slice_nil w _ _ a n c n' c' Try.underlying24
  obtain ⟨vs, hs, hsrc⟩ := grd_heads h (fun e => by cases e)
  have HS := hid hs
  have hl : vs.length = xss.length * 1 := by rw [hs.len, Nat.mul_one]
  have HC := hid (show ∀ j u, vs[j]? = some u → (w.alloc (.cells #[] eR)).cell? (p.add j) = some u from fun j u hj => by
    rcases hsrc.2.2 with ⟨e, _⟩ | ⟨ad, e, hc⟩
    · cases e
    · injection e with e
      subst e
      exact cell_all (hc j u hj) _)
  have H1 := hid hs.one
  have O8 := hid (zeroH w)
  have m2 : 0 + xss.length ≤ maxLen := by unfold maxLen; omega
  have b2 : (0 + xss.length) * 24 ≤ 140737488355328 := by omega
  have S8 : w.heap.size ≤ (w.alloc (.cells #[] eR)).heap.size := by rw [World.size_alloc]; omega
  clear h hs hsrc
  go_enter Try.func42, Try.ntmps42
  go_wp2_with (at_builtin; refine wpList_append_own _ rfl _ _ 24 rfl w.heap.size eR i1 (.slice none 0 0) 1 24 Try.underlying24 hj hy0 hy1 hy2 rfl (by decide) _ 0 [] rfl O8.out p xss.length _ vs rfl hl HC.out H1.out m2 b2 S8 ?_; intro v1 w1 hown hgr hnil; have HO := hid (show w1.ownsRow w.heap.size eR 1 v1 xss.length vs from by simpa using hown); have HN := hid (show ∃ g c, v1 = .slice (some ⟨g, 0, none⟩) xss.length c from by (rcases HO.out.2 with ⟨e, _⟩ | ⟨g, c, cur, e, _⟩; (have h2 := (hnil.1 e).1; cases h2); exact ⟨g, c, e⟩)); have HB := hid (show Below w.heap.size w w1 from ((Below.refl _ w).alloc (Nat.le_refl _) (.cells #[] eR)).grown (show World.grownBy (w.alloc (.cells #[] eR)) w1 (some w.heap.size) from hgr) (by simp) (by intro k hk; have := Option.some.inj hk; omega)); clear hown hgr hnil)
  obtain ⟨g, c, e⟩ := HN.out
  subst e
  go_wp2
  go_ret
  exact ⟨g, c, vs, rfl, HO.out, HS.out.below (HB.out.mono hB), HB.out⟩
set_option maxRecDepth 100000 in
theorem clone_nil (cap : Nat) (w : World) : Calls Try.prog 42 #[.slice none 0 cap] w fun e w' => e = .returned (.slice none 0 0) ∧ w = w' := by
  have q : ∀ (w : World) (a : Option Addr) (n c n' c' : Nat), (binOp .eql 24 (.slice a n c) (.slice none n' c')).run Try.prog w = .ok (.bool a.isNone) w := fun w a n c n' c' => Lib.run_eql_slice_nil w _ _ a n c n' c' Try.underlying24
  go_enter Try.func42, Try.ntmps42
  go_wp2
  go_ret
  exact ⟨rfl, rfl⟩
/-- A row by its place, or none: what the sort's contract is stated at. -/
def rowAt (xss : List (List Int)) : Option (Fin xss.length) → List Int
  | none => []
  | some i => xss[i.1]
def valAt (vs : List Value) {n : Nat} : Option (Fin n) → Value
  | none => .slice none 0 0
  | some i => vs.getD i.1 (.slice none 0 0)
theorem valAt_form {w : World} {B : Nat} {vs : List Value} {xss : List (List Int)} (hs : Hs w B vs xss) (x : Option (Fin xss.length)) : ∃ a c, valAt vs x = .slice a (rowAt xss x).length c ∧ Rd w B a (rowAt xss x) := by
  cases x with
  | none => exact ⟨none, 0, rfl, fun h => by simp [rowAt] at h⟩
  | some i =>
    obtain ⟨a, c, h1, h2⟩ := hs.row i.1 i.2
    refine ⟨a, c, ?_, h2⟩
    show vs.getD i.1 _ = _
    rw [List.getD_eq_getElem?_getD, h1]
    rfl
theorem below_sort {α : Type} [Inhabited α] {enc : α → Value} {w : World} {g m : Nat} {d : Array α} {os : Array Obj} (hg : g < w.heap.size) : w.grownBy (sortWorld enc w g 0 m d os) (some g) := by
  refine ⟨rfl, rfl, rfl, by simp [sortWorld, grow, putRow, mapBlock, Sort.ahead], fun k hk hne => ?_⟩
  have h1 : g ≠ k := fun e => hne (by rw [e])
  have h2 : k < (putRow enc (Sort.ahead w m) g 0 d).heap.size := by simpa [putRow, mapBlock, Sort.ahead] using hk
  rw [show sortWorld enc w g 0 m d os = grow (putRow enc (Sort.ahead w m) g 0 d) os from rfl, heap_grow_old _ _ h2]
  simp [putRow, mapBlock, Sort.ahead, Array.getElem?_modify, h1]
theorem below_of_grown {w w' : World} {B g : Nat} (h : w.grownBy w' (some g)) (hB : B ≤ g) (hs : B ≤ w.heap.size) : Below B w w' :=
  (Below.refl B w).grown h hs (fun k hk => by have := Option.some.inj hk; omega)
theorem swo_cmp (xss : List (List Int)) : SWO (ltOf fun x y : Option (Fin xss.length) => cmpL (rowAt xss x) (rowAt xss y)) := by
  refine ⟨fun x => by simp [ltOf, cmpL_self], fun x y z h1 h2 => ?_, fun x y z h1 h2 => ?_⟩
  · simp only [ltOf, decide_eq_true_eq] at *
    exact cmpL_trans h1 h2
  · simp only [ltOf, decide_eq_false_iff_not] at *
    intro h3
    have e1 := cmpL_anti (rowAt xss x) (rowAt xss y)
    have e2 := cmpL_anti (rowAt xss y) (rowAt xss z)
    have h4 := cmpL_le_trans (x := rowAt xss z) (y := rowAt xss y) (z := rowAt xss x) (by omega) (by omega)
    have e3 := cmpL_anti (rowAt xss x) (rowAt xss z)
    omega
theorem extract_all {α : Type} (a : Array α) (n : Nat) (h : a.size = n) : a.extract 0 n = a := by subst h; simp
theorem below_grow (w : World) (os : Array Obj) : Below w.heap.size w (grow w os) := ⟨rfl, rfl, rfl, by simp [grow], fun k hk => heap_grow_old _ _ hk⟩
/-- Ascending, equals allowed. -/
def Wk (ys : List (List Int)) : Prop := ys.Pairwise fun x y => ¬ cmpL y x < 0
theorem map_all (xss : List (List Int)) : ((List.finRange xss.length).map some).map (rowAt xss) = xss := by
  rw [List.map_map]
  apply List.ext_getElem
  · simp
  · intro j h1 h2
    simp [rowAt]
theorem vals_all {w : World} {B : Nat} {vs : List Value} {xss : List (List Int)} (hs : Hs w B vs xss) : ((List.finRange xss.length).map some).map (valAt vs) = vs := by
  rw [List.map_map]
  apply List.ext_getElem
  · simp [hs.len]
  · intro j h1 h2
    simp [valAt, List.getD_eq_getElem?_getD, List.getElem?_eq_getElem h2]

set_option maxRecDepth 100000 in
/-- slices.SortFunc at rows of rows, by CompareRows. -/
theorem lib_sort (g cap lo B : Nat) (vs : List Value) (xss : List (List Int)) (w : World) (hn : xss.length ≤ 1048576) (hx : ∀ x ∈ xss, x.length ≤ 1048576) (h : w.ownsRow lo eR 1 (.slice (some ⟨g, 0, none⟩) xss.length cap) xss.length vs) (hs : Hs w B vs xss) (hB : B ≤ g) :
    Calls Try.prog 43 #[.slice (some ⟨g, 0, none⟩) xss.length cap, .func (.func 41) #[] #[]] w fun e w' => ∃ vs' ys, e = .returned (.tuple #[]) ∧ w'.ownsRow lo eR 1 (.slice (some ⟨g, 0, none⟩) xss.length cap) xss.length vs' ∧ Hs w' B vs' ys ∧ ys.Perm xss ∧ Wk ys ∧ w.grownBy w' (some g) := by
  have hgs : g < w.heap.size := (World.ownsRow.lt h g rfl).2
  have hrow : ∀ x, (rowAt xss x).length ≤ 1048576 := fun x => by
    cases x with
    | none => simp [rowAt]
    | some i => exact hx _ (List.getElem_mem _)
  have h1 : Go.Proofs.OneCell (valAt vs (n := xss.length)) := fun x => by
    obtain ⟨a, c, e, _⟩ := valAt_form hs x
    rw [e]
    rfl
  have hd : (((List.finRange xss.length).map some).toArray).size = xss.length := by simp
  have hv := vals_all hs
  have hH : Holds (valAt vs) w g 0 ((List.finRange xss.length).map some).toArray := fun j hj => by
    rw [Nat.zero_add]
    have hj' : j < xss.length := by simpa using hj
    refine ⟨?_, h.frozenAt j⟩
    rw [h.cellAt j (by omega)]
    conv => lhs; rw [← hv]
    rw [List.getElem?_map, getElem!_pos ((List.finRange xss.length).map some).toArray j hj]
    simp [hj']
  have hcmp : CmpLays1 Try.prog 41 #[] (valAt vs) (fun x y : Option (Fin xss.length) => cmpL (rowAt xss x) (rowAt xss y)) g 0 (((List.finRange xss.length).map some).toArray).size w := CmpReads.lays fun m os dk hdk x y => by
    have hb := below_of_grown (below_sort (enc := valAt vs) (m := m) (d := dk) (os := os) hgs) hB (by omega)
    obtain ⟨a1, c1, e1, r1⟩ := valAt_form hs x
    obtain ⟨a2, c2, e2, r2⟩ := valAt_form hs y
    rw [e1, e2]
    refine (impl_cmp a1 a2 c1 c2 B B (rowAt xss x) (rowAt xss y) _ (hrow x) (hrow y) (r1.below hb) (r2.below hb)).mono ?_
    rintro e w' ⟨rfl, rfl⟩
    exact ⟨rfl, 0, rfl⟩
  have S := Any.slices_SortFunc Try.sortF (valAt vs) h1 (fun x y : Option (Fin xss.length) => cmpL (rowAt xss x) (rowAt xss y)) (swo_cmp xss) 41 #[] g 0 cap _ w (enters_of Try.func41 (by kernel_rfl) rfl) hcmp hH hgs (by rw [hd]; omega)
  rw [hd] at S
  refine S.mono ?_
  rintro e w' ⟨rfl, d', n, os, hp, hsrt, rfl⟩
  have hsz : d'.size = xss.length := hp.1.trans hd
  have hgr := below_sort (enc := valAt vs) (m := n) (d := d') (os := os) hgs
  have hb := below_of_grown hgr hB (by omega)
  have hperm : d'.toList.Perm ((List.finRange xss.length).map some) := by
    have h2 := hp.2.2
    rw [extract_all d' _ hsz, extract_all _ _ hd] at h2
    exact h2
  refine ⟨d'.toList.map (valAt vs), d'.toList.map (rowAt xss), rfl, ?_, ?_, ?_, ?_, hgr⟩
  · have key := Go.Lib.ownsRow_putRow (enc := valAt vs) (q := n) (k := xss.length) (ys := d'.toList) (zs := (List.finRange xss.length).map some) (by rw [hv]; exact h) (by simpa using hsz) (Nat.le_refl _)
    rw [List.take_of_length_le (by simp [hsz])] at key
    exact own_keeps key (below_grow _ os)
  · refine ⟨by simp, fun j hj => ?_⟩
    have hj' : j < d'.toList.length := by simpa using hj
    obtain ⟨a, c, e1, r1⟩ := valAt_form hs d'.toList[j]
    refine ⟨a, c, ?_, ?_⟩
    · rw [List.getElem?_map, List.getElem?_eq_getElem hj']
      simp only [Option.map_some, e1, List.getElem_map]
    · rw [List.getElem_map]
      exact r1.below hb
  · have := hperm.map (rowAt xss)
    rw [map_all] at this
    exact this
  · unfold Wk
    rw [List.pairwise_map, List.pairwise_iff_getElem]
    intro i j hi hj hij
    have hi2 : i < d'.size := by simpa using hi
    have hj2 : j < d'.size := by simpa using hj
    have h3 := hsrt i j (Nat.zero_le _) hij (by omega)
    rw [getElem!_pos d' i hi2, getElem!_pos d' j hj2] at h3
    simpa [ltOf] using h3
end Go.Proofs.Ytikpgkholhokoaa.LibRows
