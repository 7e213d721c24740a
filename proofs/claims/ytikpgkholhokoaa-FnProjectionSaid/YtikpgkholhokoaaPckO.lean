/- Columns picked out of a row: the model's l5Cols, the program's valuesAt. -/
import Derived.Test.YtikpgkholhokoaaIntLaw
import Derived.Test.YtikpgkholhokoaaHasL
import Derived.Test.YtikpgkholhokoaaRelKit
import Derived.Test.YtikpgkholhokoaaVarName
namespace Go.Proofs.Ytikpgkholhokoaa.Pck
open Go.RowKit
open Go.Proofs.Ytikpgkholhokoaa.Num Go.Proofs.Ytikpgkholhokoaa.IntRow Go.Proofs.Ytikpgkholhokoaa.IntLaw Go.Proofs.Ytikpgkholhokoaa.Grid Go.Proofs.Ytikpgkholhokoaa.GridMore Go.Proofs.Ytikpgkholhokoaa.HasL
set_option linter.unusedVariables false

theorem in_is' (v lo hi : Int) (b : Bool) (w : World) (h : VarName.inR v lo hi = b) : Calls Try.prog 27 #[.int .i64 v, .int .i64 lo, .int .i64 hi] w fun e w' => e = .returned (.bool b) ∧ w' = w := (VarName.in_is v lo hi b w h).mono fun _ _ h => ⟨h.1, h.2.symm⟩
def pick (xs cs : List Int) : List Int := cs.map fun c => xs.getD c.toNat 0
theorem pick_len (xs cs : List Int) : (pick xs cs).length = cs.length := by simp [pick]
theorem pick_at (xs cs : List Int) (k j : Nat) (h : k < cs.length) (hj : j < xs.length) (e : cs[k] = (j : Int)) (h' : k < (pick xs cs).length) : (pick xs cs)[k] = xs[j] := by
  simp [pick, e, List.getElem?_eq_getElem hj]
def Cols (m : Nat) (cs : List Int) : Prop := ∀ k (h : k < cs.length), ∃ j : Nat, j < m ∧ cs[k] = (j : Int)
def colsOk (n : Int) (cs : List Int) : Bool := cs.all fun c => decide (0 ≤ c) && decide (c < n)
theorem cols_of {n : Int} {m : Nat} {cs : List Int} (h : colsOk n cs = true) (hm : n = (m : Int)) : Cols m cs := fun k hk => by
  unfold colsOk at h
  rw [List.all_eq_true] at h
  have := h cs[k] (List.getElem_mem hk)
  simp only [Bool.and_eq_true, decide_eq_true_eq] at this
  exact ⟨cs[k].toNat, by omega, by omega⟩
theorem cols_no {n : Int} {cs : List Int} (k : Nat) (hk : k < cs.length) (h : cs[k] < 0 ∨ n ≤ cs[k]) : colsOk n cs = false := by
  unfold colsOk
  rw [List.all_eq_false]
  refine ⟨cs[k], List.getElem_mem hk, ?_⟩
  simp only [Bool.and_eq_true, decide_eq_true_eq, not_and, Int.not_lt]
  omega
theorem cols_yes {n : Int} {cs : List Int} (h : ∀ k (hk : k < cs.length), 0 ≤ cs[k] ∧ cs[k] < n) : colsOk n cs = true := by
  unfold colsOk
  rw [List.all_eq_true]
  intro c hc
  obtain ⟨k, hk, rfl⟩ := List.getElem_of_mem hc
  have := h k hk
  simp [this]
/-- impl.valuesAt: a row of the call's own. -/
theorem impl_pick (a b : Option Addr) (cap capb B B' : Nat) (xs cs : List Int) (w : World) (hn : xs.length ≤ 1048576) (hm : cs.length ≤ 1048576) (hc0 : Cols xs.length cs) (h : Rd w B a xs) (h' : Rd w B' b cs) (hB : B ≤ w.heap.size) (hB' : B' ≤ w.heap.size) :
    Calls Try.prog 25 #[.slice a xs.length cap, .slice b cs.length capb] w fun e w' => e = .returned (.slice (some ⟨w.heap.size, 0, none⟩) cs.length cs.length) ∧ At w' w.heap.size 3 cs.length (pick xs cs) ∧ Below w.heap.size w w' := by
  obtain ⟨i0, hi, hz0, hz1, hz2⟩ := info_parts IntLaw.info
  have hmk := make_ints (P := Try.prog) w 27 3 i0 Try.underlying27 hi hz0 hz1 hz2 cs.length (by omega)
  have hat0 := hid (at_made w 3 cs.length (by omega))
  have HC := hid hc0
  have HX := hid h
  have HY := hid h'
  clear hc0 h h'
  go_enter Try.func25, Try.ntmps25
  go_wp2
  go_loopw [6, 7, 13] (fun _ _ i wr => ∃ k : Nat, k ≤ cs.length ∧ i = .int .i64 k ∧ Hid (At wr w.heap.size 3 cs.length (filled (pick xs cs) k)) ∧ Hid (Below w.heap.size w wr)) (fun _ _ i _ => cs.length - (intOf i).toNat)
  case atStart => exact ⟨0, Nat.zero_le _, rfl, hid (by rw [filled_zero, pick_len]; exact hat0.out), hid ((Below.refl _ _).alloc (Nat.le_refl _) _)⟩
  case round =>
    obtain ⟨k, hk, rfl, hat, hb⟩ := hrel
    have hfl := filled_length (pick xs cs) k (by rw [pick_len]; exact hk)
    rw [pick_len] at hfl
    by_cases hlt : k < cs.length
    · obtain ⟨j, hj, hcj⟩ := HC.out k hlt
      obtain ⟨bc, offc, rfl, _, hc1⟩ := (HY.out.below (hb.out.mono hB')) (by omega)
      obtain ⟨bx, offx, rfl, _, hc2⟩ := (HX.out.below (hb.out.mono hB)) (by omega)
      have g1 := hc1 k hlt
      rw [hcj] at g1
      have g2 := hc2 j hj
      obtain ⟨u, c1⟩ : ∃ u, wr.cell? ⟨w.heap.size, k, none⟩ = some u := ⟨_, hat.out.cell k (by omega)⟩
      have c2 := hat.out.free k
      have hset := hid (hat.out.set k (xs[j]))
      have hpa := pick_at xs cs k j hlt hj hcj (by rw [pick_len]; exact hlt)
      have hfs := filled_step (pick xs cs) k (by rw [pick_len]; exact hlt)
      rw [hpa] at hfs
      rw [hfs] at hset
      have HB := hid (hb.out.setCell (p := ⟨w.heap.size, k, none⟩) (Nat.le_refl _) (.int .i64 xs[j]))
      have hj' : (j : Int) < (xs.length : Int) := by omega
      have hj0 : (0 : Int) ≤ (j : Int) := by omega
      have hk' : (k : Int) < (cs.length : Int) := by omega
      have hk0 : (0 : Int) ≤ (k : Int) := by omega
      clear hat hfl hc1 hc2 hmk hcj hpa hfs
      go_wp2
      go_roundw
      case rel => exact ⟨k + 1, by omega, by go_num, hset, HB⟩
      case measure => simp [intOf]; omega
    · have e : k = cs.length := by omega
      have HA := hat.out
      rw [show k = (pick xs cs).length by rw [pick_len]; exact e, filled_all] at HA
      have HA2 := hid HA
      clear hmk hat HA hfl
      have hk' : ¬ (k : Int) < (cs.length : Int) := by omega
      go_wp2
      go_ret
      exact ⟨rfl, HA2.out, hb.out⟩

theorem own_lit0 (w : World) (base : Nat) (e : TypeId) (hb : base ≤ w.heap.size) : Own (w.alloc (.cells #[] e)) base e (.slice (some ⟨w.heap.size, 0, none⟩) 0 0) [] :=
  World.ownsRow_made w #[] 0 hb (by decide) (by decide)
theorem pick_take {xs cs : List Int} {k j : Nat} (h : k < cs.length) (hj : j < xs.length) (e : cs[k] = (j : Int)) : pick xs (cs.take (k + 1)) = pick xs (cs.take k) ++ [xs[j]] := by
  rw [List.take_succ_eq_append_getElem h]
  simp [pick, e, List.getElem?_eq_getElem hj]

/-- spec.l5Cols: a row of the call's own. -/
theorem spec_pick (a b : Option Addr) (cap capb B B' : Nat) (xs cs : List Int) (w : World) (hn : xs.length ≤ 1048576) (hm : cs.length ≤ 1048576) (hc0 : Cols xs.length cs) (h : Rd w B a xs) (h' : Rd w B' b cs) (hB : B ≤ w.heap.size) (hB' : B' ≤ w.heap.size) :
    Calls Try.prog 29 #[.slice a xs.length cap, .slice b cs.length capb] w fun e w' => ∃ a' c', e = .returned (.slice a' cs.length c') ∧ Own w' w.heap.size 3 (.slice a' cs.length c') (pick xs cs) ∧ Below w.heap.size w w' := by
  obtain ⟨i0, hi, hz0, hz1, hz2⟩ := info_parts IntLaw.info
  have O0 := hid (own_lit0 w w.heap.size 3 (Nat.le_refl _))
  have HC := hid hc0
  have HX := hid h
  have HY := hid h'
  clear hc0 h h'
  go_enter Try.func29, Try.ntmps29
  go_wp2
  go_loopw [5, 6] (fun v i wr => ∃ k : Nat, k ≤ cs.length ∧ i = .int .i64 k ∧ Own wr w.heap.size 3 v (pick xs (cs.take k)) ∧ Below w.heap.size w wr) (fun _ i _ => cs.length - (intOf i).toNat)
  case atStart => exact ⟨0, Nat.zero_le _, rfl, by simpa [pick] using O0.out, (Below.refl _ _).alloc (Nat.le_refl _) _⟩
  case round =>
    obtain ⟨k, hk, rfl, hown, hb⟩ := hrel
    by_cases hlt : k < cs.length
    · obtain ⟨j, hj, hcj⟩ := HC.out k hlt
      have hpt := hid (pick_take hlt hj hcj)
      obtain ⟨bc, offc, rfl, _, hc1⟩ := (HY.out.below (hb.mono hB')) (by omega)
      obtain ⟨bx, offx, rfl, _, hc2⟩ := (HX.out.below (hb.mono hB)) (by omega)
      have g1 := hc1 k hlt
      rw [hcj] at g1
      have g2 := hc2 j hj
      have hj' : (j : Int) < (xs.length : Int) := by omega
      have hj0 : (0 : Int) ≤ (j : Int) := by omega
      have hk' : (k : Int) < (cs.length : Int) := by omega
      have hk0 : (0 : Int) ≤ (k : Int) := by omega
      have hll : (pick xs (cs.take k)).length ≤ 1048576 := by rw [pick_len]; simp; omega
      clear hc1 hc2 hcj
      go_wp2_with (at_builtin; refine append_int rfl _ _ 27 rfl w.heap.size 3 i0 Try.underlying27 hi hz0 hz1 hz2 wr wr _ (pick xs (cs.take k)) xs[j] hown (by rfl) (Below.refl _ _) hb.size _ rfl (by rfl) (by omega) ?_)
      intro v1 w1 hown1 hbel1 hsz1 hgr
      rw [← hpt.out] at hown1
      have hb1 := hb.trans hbel1
      clear hown hb hbel1 hsz1 hgr hll g1 g2
      go_wp2
      go_roundw
      case rel => exact ⟨k + 1, by omega, by go_num, hown1, hb1⟩
      case measure => simp [intOf]; omega
    · have e : k = cs.length := by omega
      subst e
      rw [List.take_length] at hown
      obtain ⟨av, capv, rfl, _, _, _⟩ := hown.form
      have hk' : ¬ (cs.length : Int) < (cs.length : Int) := by omega
      have HO := hid hown
      clear hown
      go_wp2
      go_ret
      exact ⟨av, capv, by rw [pick_len]; rfl, by simpa [pick_len] using HO.out, hb⟩

end Go.Proofs.Ytikpgkholhokoaa.Pck
