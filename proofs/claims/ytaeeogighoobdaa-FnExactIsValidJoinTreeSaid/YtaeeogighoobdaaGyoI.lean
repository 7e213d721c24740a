/- The program's parts of GYO reduction: the atoms' sets, slices.Repeat of [-1], the parts of a row joined, firstParent. -/
import Derived.Test.YtaeeogighoobdaaGyo
import Derived.Test.YtaeeogighoobdaaCatInt
import Derived.Test.YtaeeogighoobdaaCatE
namespace Go.Proofs.Ytaeeogighoobdaa.GyoI
open Go.RowKit
open Go.Proofs.Ytaeeogighoobdaa.Num Go.Proofs.Ytaeeogighoobdaa.IntRow Go.Proofs.Ytaeeogighoobdaa.IntLaw Go.Proofs.Ytaeeogighoobdaa.Rdr Go.Proofs.Ytaeeogighoobdaa.Dat Go.Proofs.Ytaeeogighoobdaa.HasL Go.Proofs.Ytaeeogighoobdaa.VarIn Go.Proofs.Ytaeeogighoobdaa.SetV Go.Proofs.Ytaeeogighoobdaa.SetJ Go.Proofs.Ytaeeogighoobdaa.Apnd Go.Proofs.Ytaeeogighoobdaa.CatE Go.Proofs.Ytaeeogighoobdaa.Gyo
set_option linter.unusedVariables false

/-- Sets as cells. -/
def uc (ms : List Nat) : List Value := ms.map fun m => .int .u64 ((m : Nat) : Int)
theorem uc_set (ms : List Nat) (j m : Nat) : (uc ms).set j (.int .u64 ((m : Nat) : Int)) = uc (ms.set j m) := by simp [uc, List.map_set]
theorem uc_cell {w : World} {g : Nat} {ms : List Nat} (h : HasL w g (uc ms)) (j : Nat) (hj : j < ms.length) : w.cell? ⟨g, j, none⟩ = some (.int .u64 ((ms[j] : Nat) : Int)) := by
  have := (h.2 j (by simp [uc]; exact hj)).1
  simpa [uc] using this
theorem uc_free {w : World} {g : Nat} {ms : List Nat} (h : HasL w g (uc ms)) (j : Nat) (hj : j < ms.length) : w.frozen? ⟨g, j, none⟩ = false := (h.2 j (by simp [uc]; exact hj)).2
/-- The sets of the atoms. -/
def SetsOf (us : List AtomD) (ms : List Nat) : Prop := ms.length = us.length ∧ ∀ j (h : j < us.length) (h' : j < ms.length), Is ms[j] (mem us[j].2)
theorem info : (Try.prog.info? 91).map (fun i => (i.zero, i.size, i.bytes)) = some (some (.int .u64 0), 1, 8) := by kernel_rfl
theorem made_u (n : Nat) : (madeCells (Value.cells (.int .u64 0)) (n * 1)) = (uc (List.replicate n 0)).toArray := by
  refine Array.ext (by simp [madeCells, uc]) (fun i h1 h2 => by simp [madeCells, uc, Value.cells, Nat.mod_one])

set_option maxRecDepth 100000 in
theorem impl_sets (a : Option Addr) (cap : Nat) (us : List AtomD) (lo hi : Nat) (w : World) (hn1 : us.length ≤ 1048576) (hsz : ∀ j (h : j < us.length), us[j].2.length ≤ 1048576) (h : Els 2 rAtom w lo hi a us) (hh : hi ≤ w.heap.size) :
    Calls Try.prog 51 #[.slice a us.length cap] w fun e w' => ∃ (g : Nat) (ms : List Nat), e = .returned (.slice (some ⟨g, 0, none⟩) us.length us.length) ∧ w.heap.size ≤ g ∧ HasL w' g (uc ms) ∧ SetsOf us ms ∧ Below w.heap.size w w' := by
  obtain ⟨i0, hi0, hz0, hz1, hz2⟩ := info_parts info
  have hmk := make_k (P := Try.prog) w 68 91 i0 _ 1 8 Try.underlying68 hi0 hz0 hz1 hz2 (by omega) us.length hn1
  rw [made_u] at hmk
  have H0 := hid (hasl_new w (uc (List.replicate us.length 0)) 91)
  have HB0 := hid ((Below.refl w.heap.size w).alloc (Nat.le_refl _) (.cells (uc (List.replicate us.length 0)).toArray 91))
  have HG := hid h
  have HSA := hid hsz
  clear h hsz
  go_enter Try.func51, Try.ntmps51
  go_wp2
  go_loopw [4, 5, 11] (fun _ _ i wr => ∃ (k : Nat) (ms : List Nat), k ≤ us.length ∧ i = .int .i64 k ∧ ms.length = us.length ∧ Hid (HasL wr w.heap.size (uc ms)) ∧ Hid (∀ j (h : j < us.length) (h' : j < ms.length), j < k → Is ms[j] (mem us[j].2)) ∧ Hid (Below w.heap.size w wr)) (fun _ _ i _ => us.length - (intOf i).toNat)
  case atStart => exact ⟨0, List.replicate us.length 0, Nat.zero_le _, rfl, by simp, H0, hid (fun j _ _ h => by omega), HB0⟩
  case round =>
    obtain ⟨k, ms, hk, rfl, hml, hH, hI, hb⟩ := hrel
    clear hmk
    by_cases hlt : k < us.length
    · have hlt' : (k : Int) < (us.length : Int) := by omega
      have h0' : (0 : Int) ≤ (k : Int) := by omega
      obtain ⟨b, off, aj, capj, he, _, hbB, c0, c1, rx⟩ := atoms_at (HG.out.grow good_atom hb.out hh) k hlt
      subst he
      obtain ⟨_, _, hae, _, _, hr⟩ := atom_open rx
      simp only [List.cons.injEq, Value.slice.injEq, and_true, true_and] at hae
      obtain ⟨rfl, rfl⟩ := hae
      have hsz := hb.out.size
      have B2 := hid ((Below.refl wr.heap.size wr).alloc (Nat.le_refl _) (.cells #[.string us[k].1, .slice aj us[k].2.length capj] 66))
      have HB2 := hid (hb.out.trans (B2.out.mono hsz))
      obtain ⟨n, hn⟩ := ex_is (mem us[k].2)
      have C := hid (ofM aj capj hi us[k].2 n _ (HSA.out k hlt) ((rd_of hr).below (B2.out.mono (by omega))) hn)
      have HA := hid (hH.out.alloc (.cells #[.string us[k].1, .slice aj us[k].2.length capj] 66))
      have HP := hid (by have := HA.out.put k (.int .u64 ((n : Nat) : Int)); rw [uc_set] at this; exact this)
      have d1 := uc_cell HA.out k (by omega)
      have d2 := uc_free HA.out k (by omega)
      have HI := hid (show ∀ j (h : j < us.length) (h' : j < (ms.set k n).length), j < k + 1 → Is (ms.set k n)[j] (mem us[j].2) from fun j hj hj' hjk => by
        by_cases e : k = j
        · subst e
          rw [List.getElem_set_self]
          exact hn
        · rw [List.getElem_set_ne e]
          exact hI.out j hj (by rw [List.length_set] at hj'; exact hj') (by omega))
      have hml2 : (ms.set k n).length = us.length := by simp [hml]
      clear rx hr hn hI hH
      go_wp2_with fail
      with_reducible refine C.out.mono ?_
      rintro e w2 ⟨rfl, rfl⟩
      clear c0 c1
      go_wp2
      go_roundw
      case rel => exact ⟨k + 1, ms.set k n, by omega, by go_num, hml2, HP, HI, hid (HB2.out.setCell (Nat.le_refl _) _)⟩
      case measure => simp [intOf]; omega
    · have e : k = us.length := by omega
      have HI := hid (show SetsOf us ms from ⟨hml, fun j hj hj' => hI.out j hj hj' (by omega)⟩)
      subst e
      clear hI hml
      go_wp2
      go_ret
      exact ⟨w.heap.size, ms, rfl, Nat.le_refl _, hH.out, HI.out, hb.out⟩

/-! ### firstParent -/
/-- The atoms os as ints. -/
def zs (os : List Nat) : List Int := os.map fun k : Nat => (k : Int)
theorem zs_len (os : List Nat) : (zs os).length = os.length := by simp [zs]
theorem zs_at (os : List Nat) (j : Nat) (h : j < os.length) (h' : j < (zs os).length) : (zs os)[j] = (os[j] : Int) := by simp [zs]
def anyO (us : List AtomD) (os : List Nat) (v : Nat) : Bool := os.any fun j => mv us j v
/-- Has atom k all variables that atom a shares with one of os? -/
def subO (us : List AtomD) (a : Nat) (os : List Nat) (k : Nat) : Bool := (List.range 5).all fun v => !(mv us a v && anyO us os v && !mv us k v)
theorem sub_is {us : List AtomD} {a k m n : Nat} {os : List Nat} (hm : Is m (fun v => mv us a v && anyO us os v)) (hn : Is n (mv us k)) : decide (m ^^^ (m &&& n) = 0) = subO us a os k := by
  have hi := is_sub hm hn
  cases h : subO us a os k with
  | true =>
    unfold subO at h
    rw [List.all_eq_true] at h
    rw [decide_eq_true_eq]
    exact is_none hi (fun v hv => by
      have h3 := h v (List.mem_range.2 hv)
      revert h3
      show (!(mv us a v && anyO us os v && !mv us k v)) = true → (mv us a v && anyO us os v && !mv us k v) = false
      cases (mv us a v && anyO us os v && !mv us k v) <;> simp)
  | false =>
    unfold subO at h
    rw [List.all_eq_false] at h
    obtain ⟨v, hv, hb⟩ := h
    rw [decide_eq_false_iff_not]
    exact is_some hi (List.mem_range.1 hv) (by simpa using hb)
/-- What firstParent answers. -/
def par (us : List AtomD) (a : Nat) (os : List Nat) : Option Nat := os.find? (subO us a os)
def parV (r : Option Nat) : Value := match r with
  | some k => .tuple #[.int .i64 (k : Int), .bool true]
  | none => .tuple #[.int .i64 (-1), .bool false]
theorem set_mv {us : List AtomD} {ms : List Nat} (h : SetsOf us ms) {j : Nat} (hj : j < us.length) (hj' : j < ms.length) : Is ms[j] (mv us j) := is_congr (h.2 j hj hj') (fun v _ => (mv_at hj).symm)

set_option maxRecDepth 100000 in
theorem impl_first (us : List AtomD) (ms : List Nat) (g a : Nat) (os : List Nat) (oa : Option Addr) (oc B : Nat) (w : World) (hn : us.length ≤ 1048576) (ha : a < us.length) (ho : os.length ≤ 1048576) (hos : ∀ k ∈ os, k < us.length) (hms : SetsOf us ms) (hg : HasL w g (uc ms)) (h : Rd w B oa (zs os)) :
    Calls Try.prog 68 #[.slice (some ⟨g, 0, none⟩) us.length us.length, .int .i64 a, .slice oa os.length oc] w fun e w' => e = .returned (parV (par us a os)) ∧ w = w' := by
  have hl := zs_len os
  have HM := hid hms
  have HL := hid hms.1
  have HG := hid hg
  have HOS := hid hos
  have HR := hid h
  have ha0 : (0 : Int) ≤ (a : Int) := by omega
  have ha1 : (a : Int) < (us.length : Int) := by omega
  clear h hg hms hos
  go_enter Try.func68, Try.ntmps68
  go_wp2
  go_loop [8, 10, 16] (fun s _ i => ∃ k m : Nat, k ≤ os.length ∧ i = .int .i64 k ∧ s = .int .u64 m ∧ m < 32 ∧ Hid (Is m (anyO us (os.take k)))) (fun _ _ i => os.length - (intOf i).toNat)
  case atStart => exact ⟨0, 0, Nat.zero_le _, rfl, rfl, by decide, hid (is_congr is_zero (fun v _ => by simp [anyO]))⟩
  case round =>
    obtain ⟨k, m, hk, rfl, rfl, hm, his⟩ := hrel
    by_cases hlt : k < os.length
    · have hlt' : (k : Int) < (os.length : Int) := by omega
      have h0' : (0 : Int) ≤ (k : Int) := by omega
      obtain ⟨b, off, rfl, hbB, hc⟩ := HR.out (by omega)
      have c0 := hc k (by omega)
      rw [zs_at os k hlt] at c0
      clear hc
      have hol : os[k] < us.length := HOS.out _ (List.getElem_mem hlt)
      have hoI := set_mv HM.out hol (by rw [HL.out]; exact hol)
      have c1 := uc_cell HG.out os[k] (by rw [HL.out]; exact hol)
      have HI := hid (show Is (m ||| ms[os[k]]'(by rw [HL.out]; exact hol)) (anyO us (os.take (k + 1))) from is_congr (is_or his.out hoI) (fun v _ => by unfold anyO; rw [any_step k hlt]))
      obtain ⟨o, ho'⟩ : ∃ z, os[k] = z := ⟨_, rfl⟩
      obtain ⟨q, hq⟩ : ∃ z, ms[os[k]]'(by rw [HL.out]; exact hol) = z := ⟨_, rfl⟩
      rw [hq] at c1 HI
      have hq32 : q < 32 := by rw [← hq]; exact hoI.1
      obtain ⟨p, hp⟩ : ∃ z, m ||| q = z := ⟨_, rfl⟩
      have e2 : bits .or .u64 (m : Int) (q : Int) = (p : Int) := by rw [← hp]; exact u_or hm hq32
      rw [hp] at HI
      rw [ho'] at c0 c1 hol
      have ho0 : (0 : Int) ≤ (o : Int) := by omega
      have ho1 : (o : Int) < (us.length : Int) := by omega
      clear hoI hq hp ho' his
      go_wp2
      go_round
      case rel => exact ⟨k + 1, p, by omega, by go_num, rfl, HI.out.1, HI⟩
      case measure => simp [intOf]; omega
    · have e : k = os.length := by omega
      subst e
      have HI := hid (show Is m (anyO us os) by have := his.out; rw [List.take_length] at this; exact this)
      have haI := set_mv HM.out ha (by rw [HL.out]; exact ha)
      have c1 := uc_cell HG.out a (by rw [HL.out]; exact ha)
      obtain ⟨q, hq⟩ : ∃ z, ms[a]'(by rw [HL.out]; exact ha) = z := ⟨_, rfl⟩
      rw [hq] at c1 haI
      obtain ⟨s, hs⟩ : ∃ z, q &&& m = z := ⟨_, rfl⟩
      have e2 : bits .and .u64 (q : Int) (m : Int) = (s : Int) := by rw [← hs]; exact u_and haI.1 (by omega)
      have HS := hid (show Is s (fun v => mv us a v && anyO us os v) by rw [← hs]; exact is_and haI HI.out)
      clear hq hs haI his
      go_wp2
      go_loop [13, 35] (fun _ i => ∃ k : Nat, k ≤ os.length ∧ i = .int .i64 k ∧ Hid (∀ j (h : j < os.length), j < k → subO us a os os[j] = false)) (fun _ i => os.length - (intOf i).toNat)
      case atStart => exact ⟨0, Nat.zero_le _, rfl, hid (fun j _ h => by omega)⟩
      case round =>
        obtain ⟨k, hk, rfl, hno⟩ := hrel
        by_cases hlt : k < os.length
        · have hlt' : (k : Int) < (os.length : Int) := by omega
          have h0' : (0 : Int) ≤ (k : Int) := by omega
          obtain ⟨b, off, rfl, hbB, hc⟩ := HR.out (by omega)
          have c0 := hc k (by omega)
          rw [zs_at os k hlt] at c0
          clear hc
          have hol : os[k] < us.length := HOS.out _ (List.getElem_mem hlt)
          have hoI := set_mv HM.out hol (by rw [HL.out]; exact hol)
          have c2 := uc_cell HG.out os[k] (by rw [HL.out]; exact hol)
          obtain ⟨bb, hbb⟩ : ∃ z, subO us a os os[k] = z := ⟨_, rfl⟩
          have C := hid (fun W => impl_sub s _ bb W HS.out.1 hoI.1 (by rw [sub_is HS.out hoI, hbb]))
          obtain ⟨o, ho'⟩ : ∃ z, os[k] = z := ⟨_, rfl⟩
          have HO := hid ho'
          obtain ⟨q2, hq2⟩ : ∃ z, ms[os[k]]'(by rw [HL.out]; exact hol) = z := ⟨_, rfl⟩
          rw [hq2] at c2 C
          rw [ho'] at c0 c2 hol
          have ho0 : (0 : Int) ≤ (o : Int) := by omega
          have ho1 : (o : Int) < (us.length : Int) := by omega
          have HBB := hid hbb
          clear hoI hq2 ho' hbb c1
          cases bb with
          | true =>
            have HF := hid (show par us a os = some o by
              unfold par
              rw [List.find?_eq_some_iff_getElem]
              exact ⟨by rw [← HO.out]; exact HBB.out, k, hlt, HO.out, fun j hj => by rw [hno.out j (by omega) hj]; rfl⟩)
            go_wp2_with fail
            with_reducible refine (C.out _).mono ?_
            rintro e w2 ⟨rfl, rfl⟩
            go_wp2
            go_ret2
            exact ⟨by rw [HF.out]; rfl, rfl⟩
          | false =>
            have HN := hid (show ∀ j (h : j < os.length), j < k + 1 → subO us a os os[j] = false from fun j hj hjk => by
              by_cases e : j = k
              · subst e; exact HBB.out
              · exact hno.out j hj (by omega))
            go_wp2_with fail
            with_reducible refine (C.out _).mono ?_
            rintro e w2 ⟨rfl, rfl⟩
            go_wp2
            go_round
            case rel => exact ⟨k + 1, by omega, by go_num, HN⟩
            case measure => simp [intOf]; omega
        · have HF := hid (show par us a os = none by
            unfold par
            rw [List.find?_eq_none]
            intro x hx
            obtain ⟨j, hj, rfl⟩ := List.getElem_of_mem hx
            rw [hno.out j hj (by omega)]
            decide)
          go_wp2
          go_ret2
          exact ⟨by rw [HF.out]; rfl, rfl⟩
end Go.Proofs.Ytaeeogighoobdaa.GyoI
