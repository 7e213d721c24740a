/- The rows of codes: the model's (spec.DecodeRow). -/
import Derived.Test.YtnnhkghdlekanaaRowDecs
namespace Go.Proofs.Ytnnhkghdlekanaa.RowDecm
open Go.RowKit
open Go.Proofs.Ytnnhkghdlekanaa.Num Go.Proofs.Ytnnhkghdlekanaa.IntRow Go.Proofs.Ytnnhkghdlekanaa.IntLaw Go.Proofs.Ytnnhkghdlekanaa.Vals Go.Proofs.Ytnnhkghdlekanaa.RowDec Go.Proofs.Ytnnhkghdlekanaa.RowDecs
set_option linter.unusedVariables false

theorem own_empty (w : World) (base : Nat) (e : TypeId) (hb : base ≤ w.heap.size) : Own (w.alloc (.cells #[] e)) base e (.slice (some ⟨w.heap.size, 0, none⟩) 0 0) [] :=
  World.ownsRow_made w #[] 0 hb (by decide) (by decide)

theorem spec_dr_len (s : ByteArray) (n : Int) (w : World) (hs : s.size ≤ 1048576) (h : (s.size : Int) ≠ n) :
    Calls Try.prog 18 #[.string s, .int .i64 n] w fun e w' => DrAt [] false w e w' := by
  have h' : ((s.size : Int) != n) = true := by simpa using h
  have O := hid (own_empty w w.heap.size 3 (Nat.le_refl _))
  clear h
  go_enter Try.func18, Try.ntmps18
  go_wp2
  go_ret2
  exact ⟨some ⟨w.heap.size, 0, none⟩, 0, rfl, O.out, (Below.refl _ _).alloc (Nat.le_refl _) _⟩

theorem take_step (xs : List Int) (k : Nat) (h : k < xs.length) : xs.take (k + 1) = xs.take k ++ [xs[k]] := List.take_succ_eq_append_getElem h

set_option maxRecDepth 100000 in
theorem spec_dr (s : ByteArray) (w : World) (hs : s.size ≤ 1048576) (xs : List Int) (hx : RowKit.Hid ((vals (decr s) = true ∧ xs = decr s) ∨ (vals (decr s) = false ∧ xs = []))) :
    Calls Try.prog 18 #[.string s, .int .i64 (s.size : Nat)] w fun e w' => DrAt xs (vals (decr s)) w e w' := by
  obtain ⟨i0, hi, hz0, hz1, hz2⟩ := info_parts IntLaw.info
  have O := hid (own_empty w w.heap.size 3 (Nat.le_refl _))
  have h' : ((s.size : Int) != (s.size : Int)) = false := by simp
  have hdl := hid (decr_length s)
  go_enter Try.func18, Try.ntmps18
  go_wp2
  go_loopw [6, 7, 8, 9] (fun v i _ _ wr => ∃ (k : Nat), k ≤ s.size ∧ i = .int .i64 k ∧ Hid (∀ j (h : j < (decr s).length), j < k → okv (decr s)[j] = true) ∧ Own wr w.heap.size 3 v ((decr s).take k) ∧ Below w.heap.size w wr ∧ w.heap.size ≤ wr.heap.size) (fun _ i _ _ _ => s.size - (intOf i).toNat)
  case atStart => exact ⟨0, Nat.zero_le _, rfl, hid (fun j _ h => by omega), by simpa using O.out, (Below.refl _ _).alloc (Nat.le_refl _) _, by simp⟩
  case round =>
    obtain ⟨k, hk, rfl, hd, hown, hb, hsz⟩ := hrel
    by_cases hlt : k < s.size
    · have hdk : k < (decr s).length := by rw [hdl.out]; exact hlt
      have hda := decr_at s k hlt hdk
      cases hok : okv (((s[k].toNat : Nat) : Int) - 1) with
      | false =>
        have D := hid (spec_dv_in s k false 0 wr hs hlt hok rfl)
        have hvf := vals_not (xs := decr s) k hdk (by rw [hda]; exact hok)
        have hxe : xs = [] := by
          rcases hx.out with ⟨h1, _⟩ | ⟨_, h2⟩
          · rw [hvf] at h1; cases h1
          · exact h2
        subst hxe
        have HV := hid hvf
        have HB := hid (hb.alloc hsz (.cells #[] 3))
        have O2 := hid (own_empty wr w.heap.size 3 hsz)
        clear hb hown hda hdk hok hvf
        go_wp2_with fail
        refine D.out.mono ?_
        rintro e w' ⟨rfl, rfl⟩
        go_wp2_with fail
        go_ret2
        rw [HV.out]
        exact ⟨some ⟨wr.heap.size, 0, none⟩, 0, rfl, O2.out, HB.out⟩
      | true =>
        have D := hid (spec_dv_in s k true _ wr hs hlt hok rfl)
        simp only [cond_true] at D
        have HD := hid (show ∀ j (h : j < (decr s).length), j < k + 1 → okv (decr s)[j] = true from fun j hj hjk => by
          by_cases e : j = k
          · subst e; rw [hda]; exact hok
          · exact hd.out j hj (by omega))
        have hts := hid (take_step (decr s) k hdk)
        rw [hda] at hts
        have hcl : ((decr s).take k).length ≤ 1048576 := by rw [List.length_take]; omega
        clear hda hdk hok hd
        go_wp2_with fail
        refine D.out.mono ?_
        rintro e w' ⟨rfl, rfl⟩
        go_wp2_with (at_builtin; refine append_int rfl _ _ 24 rfl w.heap.size 3 i0 Try.underlying24 hi hz0 hz1 hz2 w wr _ ((decr s).take k) (((s[k].toNat : Nat) : Int) - 1) hown (by rfl) hb hsz _ ?c1 (by rfl) (by omega) ?_)
        case c1 => rfl
        intro v1 w1 hown1 hbel1 hsz1 hgr
        rw [← hts.out] at hown1
        have HO := hid hown1
        have HB := hid hbel1
        clear hown hb hcl hown1 hbel1 hgr
        go_wp2
        go_roundw
        case rel => exact ⟨k + 1, by omega, by go_num, HD, HO.out, HB.out, hsz1⟩
        case measure => simp [intOf]; omega
    · have hv := vals_all (xs := decr s) (fun j hj => hd.out j hj (by rw [hdl.out] at hj; omega))
      have hxe : xs = decr s := by
        rcases hx.out with ⟨_, h1⟩ | ⟨h2, _⟩
        · exact h1
        · rw [hv] at h2; cases h2
      subst hxe
      have e1 : (decr s).take k = decr s := List.take_of_length_le (by rw [hdl.out]; omega)
      rw [e1] at hown
      have HV := hid hv
      obtain ⟨a, cap, rfl, _, _, _⟩ := hown.form
      have HO := hid hown
      have HB := hid hb
      clear hown hb hv hd
      go_wp2
      go_ret2
      rw [HV.out]
      exact ⟨a, cap, rfl, HO.out, HB.out⟩

theorem spec_dr_any (s : ByteArray) (n : Int) (w : World) (hs : s.size ≤ 1048576) :
    Calls Try.prog 18 #[.string s, .int .i64 n] w fun e w' => DrAt (drL s n) (drOk s n) w e w' := by
  by_cases h : (s.size : Int) = n
  · subst h
    have e : drOk s (s.size : Nat) = vals (decr s) := by simp [drOk]
    rw [e]
    refine spec_dr s w hs _ (hid ?_)
    cases hv : vals (decr s) with
    | true => exact .inl ⟨rfl, dr_yes (by rw [e, hv])⟩
    | false => exact .inr ⟨rfl, dr_no (by rw [e, hv])⟩
  · have hk : drOk s n = false := by simp [drOk, h]
    rw [dr_no hk, hk]
    exact spec_dr_len s n w hs h
end Go.Proofs.Ytnnhkghdlekanaa.RowDecm
