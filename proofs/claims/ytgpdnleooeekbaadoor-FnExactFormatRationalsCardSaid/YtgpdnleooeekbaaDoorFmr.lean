/- Formats of lists of rationals: the model's function and the program's. -/
import Derived.Test.YtgpdnleooeekbaaDoorJnd
import Derived.Test.YtgpdnleooeekbaaDoorFmtAny
import Derived.Test.YtgpdnleooeekbaaDoorRats
import Derived.Test.YtgpdnleooeekbaaDoorOpsSpec
import Derived.Test.YtgpdnleooeekbaaDoorOps
namespace Go.Proofs.YtgpdnleooeekbaaDoor.Fmr
open Go.RowKit
open Go.Proofs.YtgpdnleooeekbaaDoor.Num Go.Proofs.YtgpdnleooeekbaaDoor.Rat Go.Proofs.YtgpdnleooeekbaaDoor.IntRow Go.Proofs.YtgpdnleooeekbaaDoor.Rdr Go.Proofs.YtgpdnleooeekbaaDoor.HasL Go.Proofs.YtgpdnleooeekbaaDoor.LaidI Go.Proofs.YtgpdnleooeekbaaDoor.FmtFrac Go.Proofs.YtgpdnleooeekbaaDoor.ReadR Go.Proofs.YtgpdnleooeekbaaDoor.FmtAny Go.Proofs.YtgpdnleooeekbaaDoor.FmtP Go.Proofs.YtgpdnleooeekbaaDoor.Jnd Go.Proofs.YtgpdnleooeekbaaDoor.Rats Go.Proofs.YtgpdnleooeekbaaDoor.Ops
set_option linter.unusedVariables false

def fo (p : RatD) : List UInt8 := fmtL p.1 p.2
def vrs (xs : List RatD) : Bool := xs.all fun p => vr p.1 p.2
/-- The format of a list. -/
def fmr (xs : List RatD) : List UInt8 := if vrs xs = true then jg fo 32 xs xs.length else []
theorem fmr_no {xs : List RatD} (k : Nat) (h : k < xs.length) (e : vr xs[k].1 xs[k].2 = false) : fmr xs = [] := by
  have : vrs xs = false := QryP.all_no k h e
  unfold fmr
  rw [this, if_neg (by decide)]
theorem fmr_yes {xs : List RatD} (h : ∀ j (h : j < xs.length), vr xs[j].1 xs[j].2 = true) : fmr xs = jg fo 32 xs xs.length := by
  have : vrs xs = true := QryP.all_yes h
  unfold fmr
  rw [this, if_pos rfl]
theorem itoa_ne (n : Int) : Lib.itoa n ≠ [] := by
  rcases Int.lt_or_le n 0 with h | h
  · obtain ⟨u, hu⟩ := Int.eq_ofNat_of_zero_le (show 0 ≤ -n by omega)
    rw [show n = -(u : Int) by omega, Dec.itoa_neg' u (by omega)]
    simp
  · obtain ⟨u, rfl⟩ := Int.eq_ofNat_of_zero_le h
    rw [Dec.itoa_nat]
    by_cases hu : u < 10
    · rw [Dec.dd_small u hu]; simp
    · rw [Dec.dd_step u hu]; simp
theorem fo_no {p : RatD} (h : vr p.1 p.2 = false) : fo p = [] := by unfold fo fmtL; rw [h, if_neg (by decide)]
theorem fo_ne {p : RatD} (h : vr p.1 p.2 = true) : fo p ≠ [] := by
  unfold fo fmtL
  rw [h, if_pos rfl]
  split
  · exact itoa_ne _
  · have := itoa_ne p.1
    simp
theorem fo_len (p : RatD) : (fo p).length ≤ 23 := by
  cases h : vr p.1 p.2 with
  | false => rw [fo_no h]; simp
  | true =>
    obtain ⟨a0, a1, a2, a3, _⟩ := vr_true h
    have h1 := itoa_len p.1 a2 a3
    have h2 := itoa_len p.2 (by omega) a1
    unfold fo fmtL
    rw [h, if_pos rfl]
    split
    · omega
    · rw [List.length_append, List.length_cons]; omega
theorem mk_ne {l : List UInt8} (h : l ≠ []) : mkB l ≠ ⟨#[]⟩ := fun e => h (by have := congrArg bl e; rw [bl_mk] at this; simpa [bl] using this)

set_option maxRecDepth 100000 in
theorem impl_fmr (a : Option Addr) (cap : Nat) (xs : List RatD) (lo hi : Nat) (w : World) (hn : xs.length ≤ 1048576) (h : Els 2 rRat w lo hi a xs) (hh : hi ≤ w.heap.size) (ht : Pow w) :
    Calls Tryd.prog 14 #[.slice a xs.length cap] w fun e w' => e = .returned (.string (mkB (fmr xs))) ∧ Below w.heap.size w w' := by
  obtain ⟨i0, hi0, hz0, hz1, hz2⟩ := info_parts infoS
  have hmk := make_k (P := Tryd.prog) w 69 9 i0 _ 1 16 Tryd.underlying69 hi0 hz0 hz1 hz2 (by omega) xs.length (by omega)
  rw [made_s] at hmk
  have H0 := hid (hasl_new w (sc (List.replicate xs.length ⟨#[]⟩)) 9)
  have HB0 := hid ((Below.refl w.heap.size w).alloc (Nat.le_refl _) (.cells (sc (List.replicate xs.length ⟨#[]⟩)).toArray 9))
  have HT := hid (fun W (hW : Below w.heap.size w W) => ht.below hW)
  have hjl := jg_len fo 32 xs 23 (fun j hj => fo_len _) xs.length (Nat.le_refl _)
  clear ht
  go_enter Tryd.func14, Tryd.ntmps14
  go_wp2
  go_loopw [4, 5, 11] (fun _ _ i wr => ∃ (k : Nat) (ns : List ByteArray), k ≤ xs.length ∧ i = .int .i64 k ∧ ns.length = xs.length ∧ Hid (HasL wr w.heap.size (sc ns)) ∧ Hid (Nms (fun z => mkB (fo z)) xs ns k) ∧ Hid (∀ j (h : j < xs.length), j < k → vr xs[j].1 xs[j].2 = true) ∧ Hid (Below w.heap.size w wr)) (fun _ _ i _ => xs.length - (intOf i).toNat)
  case atStart => exact ⟨0, _, Nat.zero_le _, rfl, by simp, H0, hid (Nms.zero _ _), hid (fun j _ hj => by omega), HB0⟩
  case round =>
    obtain ⟨k, ns, hk, rfl, hnl, hH, hN, hv, hb⟩ := hrel
    clear hmk
    by_cases hlt : k < xs.length
    · have hlt' : (k : Int) < (xs.length : Int) := by omega
      have h0' : (0 : Int) ≤ (k : Int) := by omega
      obtain ⟨b, off, rfl, _, hbB, c0, c1⟩ := rats_at (h.grow good_rat hb.out hh) k hlt
      have hbd := rats_bd h k hlt
      have hsb := hb.out.size
      have K := hid (hasl_new wr [.int .i64 xs[k].1, .int .i64 xs[k].2] 25)
      have B1 := hid (hb.out.alloc hsb (.cells #[.int .i64 xs[k].1, .int .i64 xs[k].2] 25))
      have H1 := hid (hH.out.alloc (.cells #[.int .i64 xs[k].1, .int .i64 xs[k].2] 25))
      obtain ⟨p0, p1, p2, p3, p4⟩ := K.out.two
      cases hz : vr xs[k].1 xs[k].2 with
      | false =>
        have V := hid (fun W => valid_no xs[k].1 xs[k].2 W hbd.1 hbd.2 hz)
        have HF := hid (fmr_no k hlt hz)
        clear hz hbd hN hH hv h hjl
        go_wp2_with fail
        refine (V.out _).mono ?_
        rintro e w1 ⟨rfl, hb1⟩
        have HB := hid (B1.out.trans (hb1.mono B1.out.size))
        clear hb1 p0 p1 p2 p3 p4
        go_wp2
        go_ret
        exact ⟨by rw [HF.out]; rfl, HB.out⟩
      | true =>
        have V := hid (fun W => valid_yes xs[k].1 xs[k].2 W hz)
        have C := hid (fun W (hW : Pow W) => impl_fmt xs[k].1 xs[k].2 W hW hbd.1 hbd.2)
        have HN2 := hid (hN.out.step hlt)
        obtain ⟨s, hs⟩ : ∃ z, mkB (fo xs[k]) = z := ⟨_, rfl⟩
        have hs2 : (⟨(fmtL xs[k].1 xs[k].2).toArray⟩ : ByteArray) = s := hs
        rw [hs2] at C
        rw [hs] at HN2
        have HV2 := hid (fun j (hj : j < xs.length) (hjk : j < k + 1) => show vr xs[j].1 xs[j].2 = true by
          by_cases e : j = k
          · subst e; exact hz
          · exact hv.out j hj (by omega))
        have hnl2 : (ns.set k s).length = xs.length := by simp [hnl]
        clear hs hs2 hN hH hz hbd hv
        go_wp2_with fail
        refine (V.out _).mono ?_
        rintro e w1 ⟨rfl, hb1⟩
        have HB := hid (B1.out.trans (hb1.mono B1.out.size))
        have HK := hid (K.out.below hb1)
        have H2 := hid (H1.out.below hb1)
        clear hb1 p0 p1 p2 p3 p4 c0 c1 V B1 K H1
        obtain ⟨p0, p1, p2, p3, p4⟩ := HK.out.two
        go_wp2_with fail
        refine (C.out _ (HT.out _ HB.out)).mono ?_
        rintro e w2 ⟨rfl, hb2⟩
        have HB2 := hid (HB.out.trans (hb2.mono HB.out.size))
        have H3 := hid (H2.out.below hb2)
        have HP := hid (by have := H3.out.put k (.string s); rw [sc_set] at this; exact this)
        obtain ⟨u, d1⟩ : ∃ u, w2.cell? ⟨w.heap.size, k, none⟩ = some u := ⟨_, sc_cell H3.out k (by omega)⟩
        have d2 := sc_free H3.out k (by omega)
        clear hb2 p0 p1 p2 p3 p4 HB H2 HK
        go_wp2
        go_roundw
        case rel => exact ⟨k + 1, ns.set k s, by omega, by go_num, hnl2, HP, HN2, HV2, hid (HB2.out.setCell (Nat.le_refl _) _)⟩
        case measure => simp [intOf]; omega
    · have e : k = xs.length := by omega
      have hN2 := hN.out
      rw [e] at hN2
      have J := hid (joined fo 32 xs ns w.heap.size 0 wr hN2 hH.out (by omega) (by omega))
      have HF := hid (fmr_yes (fun j hj => hv.out j hj (by omega)))
      have hk' : ¬ (k : Int) < (xs.length : Int) := by omega
      clear e hN hN2 hH hjl hv h
      go_wp2_with fail
      with_reducible refine J.out.mono ?_
      rintro e w2 ⟨rfl, hb2⟩
      have HB2 := hid (hb.out.trans (hb2.mono hb.out.size))
      clear hb2
      go_wp2
      go_ret
      exact ⟨by rw [HF.out]; rfl, HB2.out⟩

set_option maxRecDepth 100000 in
theorem spec_fmr (a : Option Addr) (cap : Nat) (xs : List RatD) (lo hi : Nat) (w : World) (hn : xs.length ≤ 1048576) (h : Els 2 rRat w lo hi a xs) (hh : hi ≤ w.heap.size) :
    Calls Tryd.prog 19 #[.slice a xs.length cap] w fun e w' => e = .returned (.string (mkB (fmr xs))) ∧ Below w.heap.size w w' := by
  go_enter Tryd.func19, Tryd.ntmps19
  go_wp2
  go_loopw [3, 4, 5] (fun s i _ wr => ∃ (k : Nat) (t : ByteArray), k ≤ xs.length ∧ i = .int .i64 k ∧ s = .string t ∧ t.size ≤ k * 24 ∧ Hid (t = mkB (jg fo 32 xs k)) ∧ Hid (∀ j (h : j < xs.length), j < k → vr xs[j].1 xs[j].2 = true) ∧ Hid (Below w.heap.size w wr)) (fun _ i _ _ => xs.length - (intOf i).toNat)
  case atStart => exact ⟨0, _, Nat.zero_le _, rfl, rfl, Nat.le_refl _, hid rfl, hid (fun j _ hj => by omega), hid (Below.refl _ _)⟩
  case round =>
    obtain ⟨k, t, hk, rfl, rfl, hts, ht, hv, hb⟩ := hrel
    by_cases hlt : k < xs.length
    · have hlt' : (k : Int) < (xs.length : Int) := by omega
      have h0' : (0 : Int) ≤ (k : Int) := by omega
      obtain ⟨b, off, rfl, _, hbB, c0, c1⟩ := rats_at (h.grow good_rat hb.out hh) k hlt
      have hbd := rats_bd h k hlt
      have C := hid (fun W => spec_fmt xs[k].1 xs[k].2 W hbd.1 hbd.2)
      have hfl := fo_len xs[k]
      have hjs := jg_step fo 32 xs k hlt
      have hj1 := jg_one fo 32 xs
      obtain ⟨s, hs⟩ : ∃ z, mkB (fo xs[k]) = z := ⟨_, rfl⟩
      have hs2 : (⟨(fmtL xs[k].1 xs[k].2).toArray⟩ : ByteArray) = s := hs
      have hss : s.size ≤ 23 := by rw [← hs, size_mk]; exact hfl
      rw [hs2] at C
      clear hs2
      cases hz : vr xs[k].1 xs[k].2 with
      | false =>
        have HF := hid (fmr_no k hlt hz)
        have he : s = ⟨#[]⟩ := by rw [← hs, fo_no hz]; rfl
        subst he
        clear hz hbd hv h ht hs hjs hj1
        go_wp2_with fail
        refine (C.out _).mono ?_
        rintro e w1 ⟨rfl, hb1⟩
        have HB := hid (hb.out.trans (hb1.mono hb.out.size))
        clear hb1 c0 c1
        go_wp2
        go_ret
        exact ⟨by rw [HF.out]; rfl, HB.out⟩
      | true =>
        have hne : s ≠ ⟨#[]⟩ := by rw [← hs]; exact mk_ne (fo_ne hz)
        have hnb : s.toList.isEmpty = false := by
          cases he : s.toList.isEmpty with
          | false => rfl
          | true =>
            have e1 : s.toList = [] := by simpa using he
            rw [ByteArray.toList_eq] at e1
            exact absurd (ByteArray.ext (Array.toList_inj.1 (by rw [e1]))) hne
        have HV2 := hid (fun j (hj : j < xs.length) (hjk : j < k + 1) => show vr xs[j].1 xs[j].2 = true by
          by_cases e : j = k
          · subst e; exact hz
          · exact hv.out j hj (by omega))
        by_cases hk0 : k = 0
        · subst hk0
          have hk1 : ¬ (0 : Int) < ((0 : Nat) : Int) := by omega
          have hz1 : ¬ (9223372036854775807 < t.size + s.size) := by omega
          have hts2 : (t ++ s).size ≤ (0 + 1) * 24 := by rw [ByteArray.size_append]; omega
          have HN := hid (show t ++ s = mkB (jg fo 32 xs (0 + 1)) by
            rw [ht.out, ← hs, hj1 hlt, jg_zero, mk_app]; rfl)
          simp only [Nat.zero_mul, Nat.add_zero] at c0 c1
          clear hz hbd hv ht hs hjs hj1 hne
          go_wp2_with fail
          refine (C.out _).mono ?_
          rintro e w1 ⟨rfl, hb1⟩
          have HB := hid (hb.out.trans (hb1.mono hb.out.size))
          clear hb1 c0 c1
          go_wp2
          go_roundw
          case rel => exact ⟨0 + 1, _, by omega, by go_num, rfl, hts2, HN, HV2, HB⟩
          case measure => simp [intOf]; omega
        · have hk1 : (0 : Int) < (k : Int) := by omega
          have hk2 : 0 < k := by omega
          have e1 : (⟨#[32]⟩ : ByteArray).size = 1 := rfl
          have hz0 : ¬ (9223372036854775807 < t.size + (⟨#[32]⟩ : ByteArray).size) := by rw [e1]; omega
          have hz1 : ¬ (9223372036854775807 < (t ++ ⟨#[32]⟩).size + s.size) := by rw [ByteArray.size_append, e1]; omega
          have hts2 : ((t ++ ⟨#[32]⟩) ++ s).size ≤ (k + 1) * 24 := by rw [ByteArray.size_append, ByteArray.size_append, e1]; omega
          have HN := hid (show (t ++ ⟨#[32]⟩) ++ s = mkB (jg fo 32 xs (k + 1)) by
            rw [ht.out, ← hs]
            show (mkB _ ++ mkB [32]) ++ mkB _ = _
            rw [mk_app, mk_app, hjs (by omega)]
            simp)
          clear hz hbd hv ht hs hjs hj1 hne e1
          go_wp2_with fail
          refine (C.out _).mono ?_
          rintro e w1 ⟨rfl, hb1⟩
          have HB := hid (hb.out.trans (hb1.mono hb.out.size))
          clear hb1 c0 c1
          go_wp2
          go_roundw
          case rel => exact ⟨k + 1, _, by omega, by go_num, rfl, hts2, HN, HV2, HB⟩
          case measure => simp [intOf]; omega
    · have e : k = xs.length := by omega
      have HF := hid (show t = mkB (fmr xs) by rw [ht.out, fmr_yes (fun j hj => hv.out j hj (by omega)), e])
      have hk' : ¬ (k : Int) < (xs.length : Int) := by omega
      clear e h hv ht
      go_wp2
      go_ret
      exact ⟨by rw [← HF.out]; rfl, hb.out⟩
end Go.Proofs.YtgpdnleooeekbaaDoor.Fmr
