/- The format of a relation: the model's functions and the program's (over strconv's small numerals and the library's strings.Join). -/
import Derived.Test.YtffhfnkcbgbliaaDoorJoin
import Derived.Test.YtffhfnkcbgbliaaDoorFrelP
import Derived.Test.YtffhfnkcbgbliaaDoorFormat
import Derived.Test.YtffhfnkcbgbliaaDoorRelValidS
import Derived.Test.YtffhfnkcbgbliaaDoorRelValidI
import Derived.Test.YtffhfnkcbgbliaaDoorLawKit
import Derived.Test.YtffhfnkcbgbliaaDoorRelKit
namespace Go.Proofs.YtffhfnkcbgbliaaDoor.FrelQ
open Go.RowKit
open Go.Proofs.YtffhfnkcbgbliaaDoor.Num Go.Proofs.YtffhfnkcbgbliaaDoor.IntRow Go.Proofs.YtffhfnkcbgbliaaDoor.Grid Go.Proofs.YtffhfnkcbgbliaaDoor.GridLaw Go.Proofs.YtffhfnkcbgbliaaDoor.RelKit Go.Proofs.YtffhfnkcbgbliaaDoor.Rdr Go.Proofs.YtffhfnkcbgbliaaDoor.Dat Go.Proofs.YtffhfnkcbgbliaaDoor.HasL Go.Proofs.YtffhfnkcbgbliaaDoor.LawKit Go.Proofs.YtffhfnkcbgbliaaDoor.Vals Go.Proofs.YtffhfnkcbgbliaaDoor.Asc Go.Proofs.YtffhfnkcbgbliaaDoor.RelValidS Go.Proofs.YtffhfnkcbgbliaaDoor.RelValidI Go.Proofs.YtffhfnkcbgbliaaDoor.FmtP Go.Proofs.YtffhfnkcbgbliaaDoor.FrelP
set_option linter.unusedVariables false

theorem spec_fi (z : Int) (w : World) (h0 : 0 ≤ z) (h1 : z ≤ 99) :
    Calls Tryd.prog 35 #[.int .i64 z] w fun e w' => e = .returned (.string (mkB (dz z))) ∧ Below w.heap.size w w' := by
  have := Format.spec_any z w (by omega) (by omega)
  rw [itoa_dz h0] at this
  exact this
theorem impl_fi (z : Int) (w : World) (h0 : 0 ≤ z) (h1 : z ≤ 99) :
    Calls Tryd.prog 39 #[.int .i64 z] w fun e w' => e = .returned (.string (mkB (dz z))) ∧ w = w' := by
  obtain ⟨i, rfl⟩ : ∃ i : Nat, z = (i : Int) := ⟨z.toNat, by omega⟩
  have S := hid (Tryd.strconv_Itoa_small i (by omega) w)
  go_enter Tryd.func39, Tryd.ntmps39
  go_wp2_with fail
  refine S.out.mono ?_
  rintro e w1 ⟨rfl, rfl⟩
  go_wp2
  go_ret
  exact ⟨rfl, rfl⟩

set_option maxRecDepth 100000 in
theorem spec_rt (a : Option Addr) (cap B : Nat) (xs : List Int) (w : World) (hn : xs.length ≤ 5) (hv : ∀ j (h : j < xs.length), 0 ≤ xs[j] ∧ xs[j] ≤ 99) (h : Rd w B a xs) (hB : B ≤ w.heap.size) :
    Calls Tryd.prog 36 #[.slice a xs.length cap] w fun e w' => e = .returned (.string (mkB (rt xs))) ∧ Below w.heap.size w w' := by
  have HR := hid h
  have HV := hid hv
  clear h hv
  go_enter Tryd.func36, Tryd.ntmps36
  go_wp2
  go_loopw [3, 4] (fun s i wr => ∃ (k : Nat) (t : ByteArray), k ≤ xs.length ∧ i = .int .i64 k ∧ s = .string t ∧ t.size ≤ 1 + k * 3 ∧ Hid (t = mkB (40 :: jg dz 44 xs k)) ∧ Hid (Below w.heap.size w wr)) (fun _ i _ => xs.length - (intOf i).toNat)
  case atStart => exact ⟨0, ⟨#[40]⟩, Nat.zero_le _, rfl, rfl, by simp [ByteArray.size], hid rfl, hid (Below.refl _ _)⟩
  case round =>
    obtain ⟨k, t, hk, rfl, rfl, hts, ht, hb⟩ := hrel
    by_cases hlt : k < xs.length
    · have hlt' : (k : Int) < (xs.length : Int) := by omega
      have h0' : (0 : Int) ≤ (k : Int) := by omega
      obtain ⟨b, off, rfl, _, hc⟩ := (HR.out.below (hb.out.mono hB)) (by omega)
      have c0 := hc k hlt
      clear hc
      obtain ⟨v1, v2⟩ := HV.out k hlt
      have hvs : (mkB (dz xs[k])).size ≤ 2 := by rw [size_mk]; exact dz_len v2
      have C := hid (fun W => spec_fi xs[k] W v1 v2)
      have hst := jg_step dz 44 xs k hlt
      have hon := jg_one dz 44 xs
      obtain ⟨s, hs⟩ : ∃ z, mkB (dz xs[k]) = z := ⟨_, rfl⟩
      rw [hs] at C hvs
      by_cases hk0 : k = 0
      · have t1 : decide ((0 : Int) < (k : Int)) = false := by simp [hk0]
        have t2 : decide (0 < k) = false := by simp [hk0]
        have hz : ¬ (9223372036854775807 < t.size + s.size) := by omega
        have hts2 : (t ++ s).size ≤ 1 + (k + 1) * 3 := by rw [ByteArray.size_append]; omega
        have HN := hid (show t ++ s = mkB (40 :: jg dz 44 xs (k + 1)) by
          rw [ht.out, ← hs, mk_app]
          simp only [hk0, jg_zero]
          have := hon (by omega)
          rw [this]
          rfl)
        clear ht hs hst hon hk0
        go_wp2_with fail
        with_reducible refine (C.out _).mono ?_
        rintro e w2 ⟨rfl, hb2⟩
        have HB2 := hid (hb.out.trans (hb2.mono hb.out.size))
        clear hb2 hb c0
        go_wp2
        go_roundw
        case rel => exact ⟨k + 1, t ++ s, by omega, by go_num, rfl, hts2, HN, HB2⟩
        case measure => simp [intOf]; omega
      · have t1 : decide ((0 : Int) < (k : Int)) = true := by simp; omega
        have t2 : decide (0 < k) = true := by simp; omega
        have e1 : (⟨#[44]⟩ : ByteArray).size = 1 := rfl
        have hz0 : ¬ (9223372036854775807 < t.size + (⟨#[44]⟩ : ByteArray).size) := by rw [e1]; omega
        have hz : ¬ (9223372036854775807 < (t ++ ⟨#[44]⟩).size + s.size) := by rw [ByteArray.size_append, e1]; omega
        have hts2 : ((t ++ ⟨#[44]⟩) ++ s).size ≤ 1 + (k + 1) * 3 := by rw [ByteArray.size_append, ByteArray.size_append, e1]; omega
        have HN := hid (show (t ++ ⟨#[44]⟩) ++ s = mkB (40 :: jg dz 44 xs (k + 1)) by
          rw [ht.out, ← hs]
          show (mkB _ ++ mkB [44]) ++ mkB _ = _
          rw [mk_app, mk_app, hst (by omega)]
          simp)
        clear ht hs hst hon hk0 e1
        go_wp2_with fail
        with_reducible refine (C.out _).mono ?_
        rintro e w2 ⟨rfl, hb2⟩
        have HB2 := hid (hb.out.trans (hb2.mono hb.out.size))
        clear hb2 hb c0
        go_wp2
        go_roundw
        case rel => exact ⟨k + 1, _, by omega, by go_num, rfl, hts2, HN, HB2⟩
        case measure => simp [intOf]; omega
    · have e : k = xs.length := by omega
      have HF := hid (show t ++ ⟨#[41]⟩ = mkB (rt xs) by
        rw [ht.out, e]
        exact mk_app _ [41])
      have hz : ¬ (9223372036854775807 < t.size + (⟨#[41]⟩ : ByteArray).size) := by rw [show (⟨#[41]⟩ : ByteArray).size = 1 from rfl]; omega
      clear ht e
      go_wp2
      go_ret
      exact ⟨by rw [← HF.out]; rfl, hb.out⟩

set_option maxRecDepth 100000 in
set_option maxHeartbeats 2000000 in
theorem spec_fr (cs : List Value) (x : RelD) (lo hi : Nat) (w : World) (hs : tot x.2 ≤ 1048576) (h : rRel w lo hi cs x) (hh : hi ≤ w.heap.size) :
    Calls Tryd.prog 12 #[.agg cs.toArray] w fun e w' => e = .returned (.string (fr x)) ∧ Below w.heap.size w w' := by
  obtain ⟨a, cap, hcs, _, hg⟩ := rel_open h
  subst hcs
  have K := hid (hasl_new w [.int .i64 x.1, .slice a x.2.length cap] 30)
  have B1 := hid ((Below.refl w.heap.size w).alloc (Nat.le_refl _) (.cells #[.int .i64 x.1, .slice a x.2.length cap] 30))
  have HG := hid (grd_of hg)
  obtain ⟨qv, hqv⟩ : ∃ z, vrel x.1 x.2 = z := ⟨_, rfl⟩
  have VQ := hid (fun W (hW : Below w.heap.size w W) => by
    have := spec_valid x.1 a x.2.length cap hi x.2 W rfl (len_le hs) (each_le hs) (HG.out.below (hW.mono hh)) (Nat.le_trans hh hW.size)
    rw [hqv] at this
    exact this)
  have HQV := hid hqv
  clear h hg hs hqv
  go_enter Tryd.func12, Tryd.ntmps12
  obtain ⟨q0, q1, _, _, q6⟩ := K.out.two
  go_wp2_with fail
  with_reducible refine (VQ.out _ B1.out).mono ?_
  rintro e w1 ⟨rfl, hb1⟩
  have HB := hid (B1.out.trans (hb1.mono B1.out.size))
  have KB := hid (K.out.below hb1)
  clear hb1 q0 q1 q6
  cases qv with
  | false =>
    have HF := hid (fr_no HQV.out)
    go_wp2
    go_ret
    exact ⟨by rw [HF.out]; rfl, HB.out⟩
  | true =>
    have HF := hid (fr_yes HQV.out)
    obtain ⟨⟨n0, n5⟩, h4, hrows⟩ := rows_at HQV.out
    have HRW := hid hrows
    clear hrows
    obtain ⟨q0, q1, _, _, q6⟩ := KB.out.two
    have V1 := hid (spec_fi x.1 w1 n0 (by omega))
    obtain ⟨fo, hfo⟩ : ∃ z, mkB (dz x.1) = z := ⟨_, rfl⟩
    rw [hfo] at V1
    have hfs : fo.size ≤ 2 := by rw [← hfo, size_mk]; exact dz_len (by omega)
    have e1 : (⟨#[58]⟩ : ByteArray).size = 1 := rfl
    have hz1 : ¬ (9223372036854775807 < fo.size + (⟨#[58]⟩ : ByteArray).size) := by rw [e1]; omega
    have HFO := hid hfo
    clear hfo
    go_wp2_with fail
    with_reducible refine V1.out.mono ?_
    rintro e w2 ⟨rfl, hb2⟩
    have HB2 := hid (HB.out.trans (hb2.mono HB.out.size))
    have KB2 := hid (KB.out.below hb2)
    have hf2 : (fo ++ ⟨#[58]⟩).size ≤ 3 := by rw [ByteArray.size_append, e1]; omega
    clear hb2 HB KB e1
    go_wp2
    clear q0 q1 q6 hz1
    go_loopw [3, 4] (fun s i wr => ∃ (k : Nat) (t : ByteArray), k ≤ x.2.length ∧ i = .int .i64 k ∧ s = .string t ∧ t.size ≤ 3 + k * 18 ∧ Hid (t = mkB (dz x.1 ++ 58 :: jg rt 32 x.2 k)) ∧ Hid (HasL wr w.heap.size [.int .i64 x.1, .slice a x.2.length cap]) ∧ Hid (Below w.heap.size w wr)) (fun _ i _ => x.2.length - (intOf i).toNat)
    case atStart => exact ⟨0, fo ++ ⟨#[58]⟩, Nat.zero_le _, rfl, rfl, by omega, hid (by rw [← HFO.out, jg_zero]; exact mk_app _ [58]), KB2, HB2⟩
    case round =>
      obtain ⟨k, t, hk, rfl, rfl, hts, ht, hkb, hb⟩ := hrel
      obtain ⟨q0, q1, _, _, q6⟩ := hkb.out.two
      by_cases hlt : k < x.2.length
      · have hlt' : (k : Int) < (x.2.length : Int) := by omega
        have h0' : (0 : Int) ≤ (k : Int) := by omega
        obtain ⟨b, off, rfl, hbB, hc⟩ := (HG.out.below (hb.out.mono hh)) (by omega)
        obtain ⟨aj, capj, g, r⟩ := hc k hlt
        obtain ⟨r5, rv⟩ := HRW.out k hlt
        have hvs : (mkB (rt x.2[k])).size ≤ 17 := by rw [size_mk]; exact rt_len r5 rv
        have C := hid (fun W (hW : Below wr.heap.size wr W) => spec_rt aj capj hi x.2[k] W r5 rv (r.below (hW.mono (Nat.le_trans hh hb.out.size))) (Nat.le_trans (Nat.le_trans hh hb.out.size) hW.size))
        have hst := jg_step rt 32 x.2 k hlt
        have hon := jg_one rt 32 x.2
        obtain ⟨s, hs⟩ : ∃ z, mkB (rt x.2[k]) = z := ⟨_, rfl⟩
        rw [hs] at C hvs
        obtain ⟨xn, hxn⟩ : ∃ z, x.2[k].length = z := ⟨_, rfl⟩
        rw [hxn] at C g
        clear hc r r5 rv hxn
        by_cases hk0 : k = 0
        · have t1 : decide ((0 : Int) < (k : Int)) = false := by simp [hk0]
          have t2 : decide (0 < k) = false := by simp [hk0]
          have hz : ¬ (9223372036854775807 < t.size + s.size) := by omega
          have hts2 : (t ++ s).size ≤ 3 + (k + 1) * 18 := by rw [ByteArray.size_append]; omega
          have HN := hid (show t ++ s = mkB (dz x.1 ++ 58 :: jg rt 32 x.2 (k + 1)) by
            rw [ht.out, ← hs, mk_app]
            simp only [hk0, jg_zero]
            have := hon (by omega)
            rw [this]
            simp)
          clear ht hs hst hon hk0
          go_wp2_with fail
          with_reducible refine (C.out _ (Below.refl _ _)).mono ?_
          rintro e w2 ⟨rfl, hb2⟩
          have HB2 := hid (hb.out.trans (hb2.mono hb.out.size))
          have KB2 := hid (hkb.out.below hb2)
          clear hb2 hb g q0 q1 q6 hkb
          go_wp2
          go_roundw
          case rel => exact ⟨k + 1, t ++ s, by omega, by go_num, rfl, hts2, HN, KB2, HB2⟩
          case measure => simp [intOf]; omega
        · have t1 : decide ((0 : Int) < (k : Int)) = true := by simp; omega
          have t2 : decide (0 < k) = true := by simp; omega
          have e1 : (⟨#[32]⟩ : ByteArray).size = 1 := rfl
          have hz0 : ¬ (9223372036854775807 < t.size + (⟨#[32]⟩ : ByteArray).size) := by rw [e1]; omega
          have hz : ¬ (9223372036854775807 < (t ++ ⟨#[32]⟩).size + s.size) := by rw [ByteArray.size_append, e1]; omega
          have hts2 : ((t ++ ⟨#[32]⟩) ++ s).size ≤ 3 + (k + 1) * 18 := by rw [ByteArray.size_append, ByteArray.size_append, e1]; omega
          have HN := hid (show (t ++ ⟨#[32]⟩) ++ s = mkB (dz x.1 ++ 58 :: jg rt 32 x.2 (k + 1)) by
            rw [ht.out, ← hs]
            show (mkB _ ++ mkB [32]) ++ mkB _ = _
            rw [mk_app, mk_app, hst (by omega)]
            simp)
          clear ht hs hst hon hk0 e1
          go_wp2_with fail
          with_reducible refine (C.out _ (Below.refl _ _)).mono ?_
          rintro e w2 ⟨rfl, hb2⟩
          have HB2 := hid (hb.out.trans (hb2.mono hb.out.size))
          have KB2 := hid (hkb.out.below hb2)
          clear hb2 hb g q0 q1 q6 hkb
          go_wp2
          go_roundw
          case rel => exact ⟨k + 1, _, by omega, by go_num, rfl, hts2, HN, KB2, HB2⟩
          case measure => simp [intOf]; omega
      · have e : k = x.2.length := by omega
        have HT := hid (show t = fr x by rw [ht.out, HF.out, e])
        clear ht e
        go_wp2
        go_ret
        exact ⟨by rw [← HT.out]; rfl, hb.out⟩
/-! ### the program's -/
def sc (ns : List ByteArray) : List Value := ns.map Value.string
theorem sc_set (ns : List ByteArray) (j : Nat) (s : ByteArray) : (sc ns).set j (.string s) = sc (ns.set j s) := by simp [sc, List.map_set]
theorem sc_cell {w : World} {g : Nat} {ns : List ByteArray} (h : HasL w g (sc ns)) (j : Nat) (hj : j < ns.length) : w.cell? ⟨g, j, none⟩ = some (.string ns[j]) := by
  have := (h.2 j (by simp [sc]; exact hj)).1
  simpa [sc] using this
theorem sc_free {w : World} {g : Nat} {ns : List ByteArray} (h : HasL w g (sc ns)) (j : Nat) (hj : j < ns.length) : w.frozen? ⟨g, j, none⟩ = false := (h.2 j (by simp [sc]; exact hj)).2
theorem infoS : (Tryd.prog.info? 9).map (fun i => (i.zero, i.size, i.bytes)) = some (some (.string ⟨#[]⟩), 1, 16) := by kernel_rfl
theorem made_s (n : Nat) : (madeCells (Value.cells (.string ⟨#[]⟩)) (n * 1)) = (sc (List.replicate n ⟨#[]⟩)).toArray := by
  refine Array.ext (by simp [madeCells, sc]) (fun i h1 h2 => by simp [madeCells, sc, Value.cells, Nat.mod_one])
/-- The first k names stand. -/
def Nms {α : Type} (f : α → ByteArray) (xs : List α) (ns : List ByteArray) (k : Nat) : Prop := ns.length = xs.length ∧ ∀ j (h : j < xs.length) (h' : j < ns.length), j < k → ns[j] = f xs[j]
theorem Nms.zero {α : Type} (f : α → ByteArray) (xs : List α) : Nms f xs (List.replicate xs.length ⟨#[]⟩) 0 := ⟨by simp, fun j _ _ h => by omega⟩
theorem Nms.step {α : Type} {f : α → ByteArray} {xs : List α} {ns : List ByteArray} {k : Nat} (h : Nms f xs ns k) (hk : k < xs.length) : Nms f xs (ns.set k (f xs[k])) (k + 1) := by
  refine ⟨by simp [h.1], fun j hj hj' hjk => ?_⟩
  by_cases e : k = j
  · subst e
    rw [List.getElem_set_self]
  · rw [List.getElem_set_ne e]
    exact h.2 j hj (by rw [List.length_set] at hj'; exact hj') (by omega)
theorem Nms.done {α : Type} {f : α → ByteArray} {xs : List α} {ns : List ByteArray} (h : Nms f xs ns xs.length) : ns = xs.map f := by
  refine List.ext_getElem (by simp [h.1]) (fun j h1 h2 => ?_)
  rw [List.getElem_map]
  exact h.2 j (by rw [← h.1]; exact h1) h1 (by rw [← h.1]; exact h1)

/-- strings.Join at a row of names that the call made. -/
theorem joined {α : Type} (f : α → List UInt8) (sep : UInt8) (xs : List α) (ns : List ByteArray) (g B : Nat) (w : World) (hN : Nms (fun a => mkB (f a)) xs ns xs.length) (hH : HasL w g (sc ns)) (hlen : xs.length ≤ 140737488355328) (hl : (jg f sep xs xs.length).length ≤ 1048576) :
    Calls Tryd.prog 40 #[.slice (some ⟨g, 0, none⟩) xs.length xs.length, .string ⟨#[sep]⟩] w fun e w' => e = .returned (.string (mkB (jg f sep xs xs.length))) ∧ Below w.heap.size w w' := by
  have hm : ns = xs.map (fun a => mkB (f a)) := hN.done
  rw [hm] at hH
  have J := Tryd.strings_Join g 0 xs.length (xs.map (fun a => mkB (f a))) ⟨#[sep]⟩ w (fun j x hx => by
    obtain ⟨hj, hx'⟩ := List.getElem?_eq_some_iff.1 hx
    have := sc_cell hH j hj
    rw [Nat.zero_add, this, hx']) hH.1
  rw [List.length_map] at J
  have J2 := J hlen (Nat.le_refl _) (by
    show (Lib.join ((xs.map fun a => mkB (f a)).map (·.data.toList)) [sep]).length ≤ _
    rw [jg_all]
    omega)
  have e1 : Lib.join ((xs.map fun a => mkB (f a)).map (·.data.toList)) (⟨#[sep]⟩ : ByteArray).data.toList = jg f sep xs xs.length := jg_all f sep xs
  rw [e1] at J2
  exact J2

set_option maxRecDepth 100000 in
theorem impl_rt (a : Option Addr) (cap B : Nat) (xs : List Int) (w : World) (hn : xs.length ≤ 5) (hv : ∀ j (h : j < xs.length), 0 ≤ xs[j] ∧ xs[j] ≤ 99) (h : Rd w B a xs) (hB : B ≤ w.heap.size) :
    Calls Tryd.prog 38 #[.slice a xs.length cap] w fun e w' => e = .returned (.string (mkB (rt xs))) ∧ Below w.heap.size w w' := by
  obtain ⟨i0, hi0, hz0, hz1, hz2⟩ := info_parts infoS
  have hmk := make_k (P := Tryd.prog) w 67 9 i0 _ 1 16 Tryd.underlying67 hi0 hz0 hz1 hz2 (by omega) xs.length (by omega)
  rw [made_s] at hmk
  have H0 := hid (hasl_new w (sc (List.replicate xs.length ⟨#[]⟩)) 9)
  have HB0 := hid ((Below.refl w.heap.size w).alloc (Nat.le_refl _) (.cells (sc (List.replicate xs.length ⟨#[]⟩)).toArray 9))
  have HR := hid h
  have HV := hid hv
  have hjl := jg_len dz 44 xs 2 (fun j hj => dz_len (hv j hj).2) xs.length (Nat.le_refl _)
  clear h hv
  go_enter Tryd.func38, Tryd.ntmps38
  go_wp2
  go_loopw [4, 5, 11] (fun _ _ i wr => ∃ (k : Nat) (ns : List ByteArray), k ≤ xs.length ∧ i = .int .i64 k ∧ ns.length = xs.length ∧ Hid (HasL wr w.heap.size (sc ns)) ∧ Hid (Nms (fun z => mkB (dz z)) xs ns k) ∧ Hid (Below w.heap.size w wr)) (fun _ _ i _ => xs.length - (intOf i).toNat)
  case atStart => exact ⟨0, _, Nat.zero_le _, rfl, by simp, H0, hid (Nms.zero _ _), HB0⟩
  case round =>
    obtain ⟨k, ns, hk, rfl, hnl, hH, hN, hb⟩ := hrel
    clear hmk
    by_cases hlt : k < xs.length
    · have hlt' : (k : Int) < (xs.length : Int) := by omega
      have h0' : (0 : Int) ≤ (k : Int) := by omega
      obtain ⟨b, off, rfl, _, hc⟩ := (HR.out.below (hb.out.mono hB)) (by omega)
      have c0 := hc k hlt
      clear hc
      obtain ⟨v1, v2⟩ := HV.out k hlt
      have C := hid (fun W => impl_fi xs[k] W v1 v2)
      have HN2 := hid (hN.out.step hlt)
      obtain ⟨s, hs⟩ : ∃ z, mkB (dz xs[k]) = z := ⟨_, rfl⟩
      rw [hs] at C HN2
      have HP := hid (by have := hH.out.put k (.string s); rw [sc_set] at this; exact this)
      obtain ⟨u, d1⟩ : ∃ u, wr.cell? ⟨w.heap.size, k, none⟩ = some u := ⟨_, sc_cell hH.out k (by omega)⟩
      have d2 := sc_free hH.out k (by omega)
      have hnl2 : (ns.set k s).length = xs.length := by simp [hnl]
      clear hs hN hH
      go_wp2_with fail
      with_reducible refine (C.out _).mono ?_
      rintro e w2 ⟨rfl, rfl⟩
      clear c0
      go_wp2
      go_roundw
      case rel => exact ⟨k + 1, ns.set k s, by omega, by go_num, hnl2, HP, HN2, hid (hb.out.setCell (Nat.le_refl _) _)⟩
      case measure => simp [intOf]; omega
    · have e : k = xs.length := by omega
      have hN2 := hN.out
      rw [e] at hN2
      have J := hid (joined dz 44 xs ns w.heap.size 0 wr hN2 hH.out (by omega) (by omega))
      have HF := hid (show ((⟨#[40]⟩ : ByteArray) ++ mkB (jg dz 44 xs xs.length)) ++ ⟨#[41]⟩ = mkB (rt xs) by
        show (mkB [40] ++ mkB _) ++ mkB [41] = _
        rw [mk_app, mk_app]
        rfl)
      have hms : (mkB (jg dz 44 xs xs.length)).size ≤ 1048576 := by rw [size_mk]; omega
      obtain ⟨m, hm2⟩ : ∃ z, mkB (jg dz 44 xs xs.length) = z := ⟨_, rfl⟩
      rw [hm2] at J HF hms
      have hz1' : ¬ (9223372036854775807 < (⟨#[40]⟩ : ByteArray).size + m.size) := by rw [show (⟨#[40]⟩ : ByteArray).size = 1 from rfl]; omega
      have hz2' : ¬ (9223372036854775807 < ((⟨#[40]⟩ : ByteArray) ++ m).size + (⟨#[41]⟩ : ByteArray).size) := by rw [ByteArray.size_append, show (⟨#[40]⟩ : ByteArray).size = 1 from rfl, show (⟨#[41]⟩ : ByteArray).size = 1 from rfl]; omega
      clear e hN hN2 hm2 hH hjl
      go_wp2_with fail
      with_reducible refine J.out.mono ?_
      rintro e w2 ⟨rfl, hb2⟩
      have HB2 := hid (hb.out.trans (hb2.mono hb.out.size))
      clear hb2
      go_wp2
      go_ret
      exact ⟨by rw [← HF.out]; rfl, HB2.out⟩

set_option maxRecDepth 100000 in
set_option maxHeartbeats 2000000 in
theorem impl_fr (cs : List Value) (x : RelD) (lo hi : Nat) (w : World) (hs : tot x.2 ≤ 1048576) (h : rRel w lo hi cs x) (hh : hi ≤ w.heap.size) :
    Calls Tryd.prog 14 #[.agg cs.toArray] w fun e w' => e = .returned (.string (fr x)) ∧ Below w.heap.size w w' := by
  obtain ⟨i0, hi0, hz0, hz1, hz2⟩ := info_parts infoS
  obtain ⟨a, cap, hcs, _, hg⟩ := rel_open h
  subst hcs
  have K := hid (hasl_new w [.int .i64 x.1, .slice a x.2.length cap] 30)
  have B1 := hid ((Below.refl w.heap.size w).alloc (Nat.le_refl _) (.cells #[.int .i64 x.1, .slice a x.2.length cap] 30))
  have HG := hid (grd_of hg)
  obtain ⟨qv, hqv⟩ : ∃ z, vrel x.1 x.2 = z := ⟨_, rfl⟩
  have VQ := hid (fun W (hW : Below w.heap.size w W) => by
    have := impl_valid x.1 a x.2.length cap hi x.2 W rfl (len_le hs) (each_le hs) (HG.out.below (hW.mono hh)) (Nat.le_trans hh hW.size)
    rw [hqv] at this
    exact this)
  have HQV := hid hqv
  clear h hg hs hqv
  go_enter Tryd.func14, Tryd.ntmps14
  obtain ⟨q0, q1, _, _, q6⟩ := K.out.two
  go_wp2_with fail
  with_reducible refine (VQ.out _ B1.out).mono ?_
  rintro e w1 ⟨rfl, hb1⟩
  have HB := hid (B1.out.trans (hb1.mono B1.out.size))
  have KB := hid (K.out.below hb1)
  clear hb1 q0 q1 q6
  cases qv with
  | false =>
    have HF := hid (fr_no HQV.out)
    go_wp2
    go_ret
    exact ⟨by rw [HF.out]; rfl, HB.out⟩
  | true =>
    have HF := hid (fr_yes HQV.out)
    obtain ⟨⟨n0, n5⟩, h4, hrows⟩ := rows_at HQV.out
    have HRW := hid hrows
    have hjl := jg_len rt 32 x.2 17 (fun j hj => rt_len (hrows j hj).1 (hrows j hj).2) x.2.length (Nat.le_refl _)
    clear hrows
    obtain ⟨q0, q1, _, _, q6⟩ := KB.out.two
    have hmk := make_k (P := Tryd.prog) w1 67 9 i0 _ 1 16 Tryd.underlying67 hi0 hz0 hz1 hz2 (by omega) x.2.length (by omega)
    rw [made_s] at hmk
    have H0 := hid (hasl_new w1 (sc (List.replicate x.2.length ⟨#[]⟩)) 9)
    have KB0 := hid (KB.out.alloc (.cells (sc (List.replicate x.2.length ⟨#[]⟩)).toArray 9))
    have HB0 := hid (HB.out.alloc HB.out.size (.cells (sc (List.replicate x.2.length ⟨#[]⟩)).toArray 9))
    obtain ⟨p0, p1, _, _, p6⟩ := KB0.out.two
    have hgK := KB.out.1
    go_wp2
    clear q0 q1 q6 p0 p1 p6
    go_loopw [4, 5, 16] (fun _ _ i wr => ∃ (k : Nat) (ns : List ByteArray), k ≤ x.2.length ∧ i = .int .i64 k ∧ ns.length = x.2.length ∧ Hid (HasL wr w1.heap.size (sc ns)) ∧ Hid (Nms (fun r => mkB (rt r)) x.2 ns k) ∧ Hid (HasL wr w.heap.size [.int .i64 x.1, .slice a x.2.length cap]) ∧ Hid (Below w.heap.size w wr)) (fun _ _ i _ => x.2.length - (intOf i).toNat)
    case atStart => exact ⟨0, _, Nat.zero_le _, rfl, by simp, H0, hid (Nms.zero _ _), KB0, HB0⟩
    case round =>
      obtain ⟨k, ns, hk, rfl, hnl, hH, hN, hkb, hb⟩ := hrel
      clear hmk
      by_cases hlt : k < x.2.length
      · have hlt' : (k : Int) < (x.2.length : Int) := by omega
        have h0' : (0 : Int) ≤ (k : Int) := by omega
        obtain ⟨b, off, rfl, hbB, hc⟩ := (HG.out.below (hb.out.mono hh)) (by omega)
        obtain ⟨aj, capj, g, r⟩ := hc k hlt
        obtain ⟨r5, rv⟩ := HRW.out k hlt
        have hwz := Nat.le_trans hh hb.out.size
        have C := hid (impl_rt aj capj hi x.2[k] wr r5 rv r hwz)
        have HN2 := hid (hN.out.step hlt)
        obtain ⟨s, hs⟩ : ∃ z, mkB (rt x.2[k]) = z := ⟨_, rfl⟩
        rw [hs] at C HN2
        obtain ⟨xn, hxn⟩ : ∃ z, x.2[k].length = z := ⟨_, rfl⟩
        rw [hxn] at C g
        have hnl2 : (ns.set k s).length = x.2.length := by simp [hnl]
        have hgz := hH.out.1
        clear hs hN hc r r5 rv hxn
        go_wp2_with fail
        with_reducible refine C.out.mono ?_
        rintro e w2 ⟨rfl, hb2⟩
        have HH2 := hid (hH.out.below hb2)
        have HP := hid (by have := HH2.out.put k (.string s); rw [sc_set] at this; exact this)
        obtain ⟨u, d1⟩ : ∃ u, w2.cell? ⟨w1.heap.size, k, none⟩ = some u := ⟨_, sc_cell HH2.out k (by omega)⟩
        have d2 := sc_free HH2.out k (by omega)
        have KP := hid ((hkb.out.below hb2).far (c := w1.heap.size) (o := k) (by omega) (.string s))
        have HBP := hid ((hb.out.trans (hb2.mono hb.out.size)).setCell (p := ⟨w1.heap.size, k, none⟩) (show w.heap.size ≤ w1.heap.size from HB.out.size) (.string s))
        clear hb2 g hH hkb hb HH2
        go_wp2
        go_roundw
        case rel => exact ⟨k + 1, ns.set k s, by omega, by go_num, hnl2, HP, HN2, KP, HBP⟩
        case measure => simp [intOf]; omega
      · have e : k = x.2.length := by omega
        have hlt' : ¬ (k : Int) < (x.2.length : Int) := by omega
        obtain ⟨q0, q1, _, _, q6⟩ := hkb.out.two
        have hN2 := hN.out
        rw [e] at hN2
        have J := hid (joined rt 32 x.2 ns w1.heap.size 0 wr hN2 hH.out (by omega) (by omega))
        have C := hid (impl_fi x.1 wr n0 (by omega))
        have hd := dz_len (z := x.1) (by omega)
        have HX := hid (show (mkB (dz x.1) ++ ⟨#[58]⟩) ++ mkB (jg rt 32 x.2 x.2.length) = fr x by
          rw [HF.out]
          show (mkB _ ++ mkB [58]) ++ mkB _ = _
          rw [mk_app, mk_app]
          simp)
        have hms : (mkB (jg rt 32 x.2 x.2.length)).size ≤ 1048576 := by rw [size_mk]; omega
        have hds : (mkB (dz x.1)).size ≤ 2 := by rw [size_mk]; exact hd
        obtain ⟨m, hm2⟩ : ∃ z, mkB (jg rt 32 x.2 x.2.length) = z := ⟨_, rfl⟩
        obtain ⟨d, hd2⟩ : ∃ z, mkB (dz x.1) = z := ⟨_, rfl⟩
        rw [hm2] at J HX hms
        rw [hd2] at C HX hds
        have e1 : (⟨#[58]⟩ : ByteArray).size = 1 := rfl
        have hz1' : ¬ (9223372036854775807 < d.size + (⟨#[58]⟩ : ByteArray).size) := by rw [e1]; omega
        have hz2' : ¬ (9223372036854775807 < (d ++ ⟨#[58]⟩).size + m.size) := by rw [ByteArray.size_append, e1]; omega
        clear hN hN2 hm2 hd2 hd hH hjl e1 e
        go_wp2_with fail
        with_reducible refine C.out.mono ?_
        rintro e w2 ⟨rfl, rfl⟩
        go_wp2_with fail
        with_reducible refine J.out.mono ?_
        rintro e w2 ⟨rfl, hb2⟩
        have HB2 := hid (hb.out.trans (hb2.mono hb.out.size))
        clear hb2
        go_wp2
        go_ret
        exact ⟨by rw [← HX.out]; rfl, HB2.out⟩
end Go.Proofs.YtffhfnkcbgbliaaDoor.FrelQ
