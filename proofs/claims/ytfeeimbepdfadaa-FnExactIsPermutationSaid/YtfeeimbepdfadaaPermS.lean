/- Permutations, the model's (spec.IsPermutation). -/
import Derived.Test.YtfeeimbepdfadaaPermP
import Derived.Test.YtfeeimbepdfadaaFidx
import Derived.IntWalk
import Derived.BigQuiet
namespace Go.Proofs.Ytfeeimbepdfadaa.PermS
open Go.RowKit
open Go.Proofs.Ytfeeimbepdfadaa.Num Go.Proofs.Ytfeeimbepdfadaa.IntRow Go.Proofs.Ytfeeimbepdfadaa.VarName Go.Proofs.Ytfeeimbepdfadaa.PermP Go.Proofs.Ytfeeimbepdfadaa.Fidx
set_option linter.unusedVariables false

theorem rd_takeP {w : World} {B k : Nat} {a : Option Addr} {xs : List Int} (h : Rd w B a xs) : Rd w B a (xs.take k) := fun hp => by
  have hp' : 0 < xs.length := by simp at hp; omega
  obtain ⟨b, off, e, hb, hc⟩ := h hp'
  refine ⟨b, off, e, hb, fun j hj => ?_⟩
  have hj' : j < xs.length := by simp at hj; omega
  rw [hc j hj', List.getElem_take]

set_option maxRecDepth 100000 in
set_option maxHeartbeats 4000000 in
theorem spec_perm (a : Option Addr) (cap B : Nat) (cs : List Int) (w : World) (hn : cs.length ≤ 1048576) (hcap : cs.length ≤ cap) (h : Rd w B a cs) (hB : B ≤ w.heap.size) :
    Calls Try.prog 17 #[.slice a cs.length cap] w fun e w' => e = .returned (.bool (permOk cs)) ∧ Below w.heap.size w w' := by
  obtain ⟨ok, hok⟩ : ∃ z, permOk cs = z := ⟨_, rfl⟩
  rw [hok]
  have HOK := hid hok
  have HR := hid h
  have hww : IntKind.i64.wrap ((cs.length : Int) - 1) = (cs.length : Int) - 1 := IntWalk.i64_in _ (by omega)
  have HWW := hid hww
  clear hok h hww
  go_enter Try.func17, Try.ntmps17
  go_wp2
  go_loopw [3] (fun i wr => ∃ m : Nat, m ≤ cs.length ∧ i = .int .i64 m ∧ Hid (∀ j, j < m → fitP cs j = true) ∧ Hid (Below w.heap.size w wr)) (fun i _ => cs.length - (intOf i).toNat)
  case atStart => exact ⟨0, Nat.zero_le _, rfl, hid (fun j h => by omega), Below.refl _ _⟩
  case round =>
    obtain ⟨m, hm, rfl, hfits, hb3⟩ := hrel
    by_cases hltm : m < cs.length
    · have hrd := HR.out.below (hb3.out.mono hB)
      have HT := hid (fun W (hW : Below B wr W) => rd_takeP (k := m) (hrd.below hW))
      obtain ⟨b, off, rfl, hbB, hc⟩ := hrd (by omega)
      have g := hc m hltm
      have hm' : (m : Int) < (cs.length : Int) := by omega
      have hm0 : (0 : Int) ≤ (m : Int) := by omega
      have hmc : (m : Int) ≤ (cap : Int) := by omega
      obtain ⟨ov1, hov⟩ : ∃ z, isv cs[m] (cs.length : Int) = z := ⟨_, rfl⟩
      have HV := hid hov
      have hin : inR cs[m] 0 ((cs.length : Int) - 1) = ov1 := by rw [inR_isv]; exact hov
      have IV := hid (fun W => in_isF cs[m] 0 ((cs.length : Int) - 1) ov1 W hin)
      have hww := HWW.out
      clear hc hov hin
      cases ov1 with
      | false =>
        have hf := perm_bad m hltm (by rw [fit_at m hltm, HV.out]; rfl)
        obtain rfl : false = ok := hf.symm.trans HOK.out
        clear hf
        go_wp2
        go_quiet ((go_at_call 61; exact Calls.quiet_of_same (IV.out _)))
        clear hww
        go_wp2
        go_ret
        exact ⟨rfl, ⟨hb3.out.os, hb3.out.tape, hb3.out.output, hb3.out.size, hb3.out.block⟩⟩
      | true =>
        obtain ⟨z, hz⟩ : ∃ z, fidx (cs.take m) cs[m] 0 = z := ⟨_, rfl⟩
        have hbd := fidx_bd (cs.take m) cs[m] 0
        have hdec := fidx_dec (cs.take m) cs[m] 0
        rw [hz] at hbd hdec
        have hlk : (cs.take m).length = m := by simp; omega
        have F := hid (fun W (hW : Below B wr W) => spec_findF (some ⟨b, off, none⟩) m cap B (cs.take m) cs[m] z W hlk (by omega) hz (HT.out W hW))
        have HD := hid hdec
        have hz1 : -1 ≤ z := hbd.1
        have hz2 : z ≤ 1048576 := by omega
        clear hbd hdec hlk hz
        by_cases hzp : 0 ≤ z
        · have hf := perm_bad m hltm (by rw [fit_at m hltm, HV.out, ← HD.out]; simp [hzp])
          obtain rfl : false = ok := hf.symm.trans HOK.out
          clear hf
          go_wp2
          go_quiet ((first | (go_at_call 61; exact Calls.quiet_of_same (IV.out _)) | (go_at_call 62; exact Calls.quiet_of_same (F.out _ ⟨rfl, rfl, rfl, Nat.le_refl _, fun _ _ => rfl⟩))))
          clear hww
          go_wp2
          go_ret
          exact ⟨rfl, ⟨hb3.out.os, hb3.out.tape, hb3.out.output, hb3.out.size, hb3.out.block⟩⟩
        · have HFS := hid (show ∀ j, j < m + 1 → fitP cs j = true from fun j hj => by
            by_cases e : j = m
            · subst e; rw [fit_at j hltm, HV.out, ← HD.out]; simp [hzp]
            · exact hfits.out j (by omega))
          go_wp2
          go_quiet ((first | (go_at_call 61; exact Calls.quiet_of_same (IV.out _)) | (go_at_call 62; exact Calls.quiet_of_same (F.out _ ⟨rfl, rfl, rfl, Nat.le_refl _, fun _ _ => rfl⟩))))
          clear hww
          go_wp2
          go_roundw
          case rel => first | exact ⟨m + 1, by omega, by go_num, HFS, hid ⟨hb3.out.os, hb3.out.tape, hb3.out.output, hb3.out.size, hb3.out.block⟩⟩ | ((repeat apply Exists.intro); refine And.intro ?_ rfl; exact ⟨m + 1, by omega, by go_num, HFS, hid ⟨hb3.out.os, hb3.out.tape, hb3.out.output, hb3.out.size, hb3.out.block⟩⟩)
          case measure => simp [intOf]; omega
    · have hf := perm_end (cs := cs) (fun j hj => hfits.out j (by omega))
      have hnm : ¬ (m : Int) < (cs.length : Int) := by omega
      by_cases h5 : cs.length ≤ 5
      · obtain rfl : true = ok := by rw [← HOK.out, hf]; simp [h5]
        have h5' : (cs.length : Int) ≤ 5 := by omega
        clear hf
        go_wp2
        go_ret
        exact ⟨rfl, hb3.out⟩
      · obtain rfl : false = ok := by rw [← HOK.out, hf]; simp [h5]
        have h5' : ¬ (cs.length : Int) ≤ 5 := by omega
        clear hf
        go_wp2
        go_ret
        exact ⟨rfl, hb3.out⟩
end Go.Proofs.Ytfeeimbepdfadaa.PermS
