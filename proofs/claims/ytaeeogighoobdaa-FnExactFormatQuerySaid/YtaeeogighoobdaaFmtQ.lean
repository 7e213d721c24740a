/- The format of a query: the model's functions and the program's (over the library's strings.Join). -/
import Derived.Test.YtaeeogighoobdaaJoin
import Derived.Test.YtaeeogighoobdaaFmtP
import Derived.Test.YtaeeogighoobdaaVarI
import Derived.Test.YtaeeogighoobdaaQryVI
import Derived.Test.YtaeeogighoobdaaQryVS
import Derived.Test.YtaeeogighoobdaaSetJ
import Derived.Test.YtaeeogighoobdaaLawKit
import Derived.Test.YtaeeogighoobdaaKeep
import Derived.Test.YtaeeogighoobdaaKept
import Derived.Deep.RegionHeld3
import Derived.Deep.DeepCutAuto
import Derived.Laws.Concat
namespace Go.Proofs.Ytaeeogighoobdaa.FmtQ
open Go.RowKit
open Go.Proofs.Ytaeeogighoobdaa.VarName Go.Proofs.Ytaeeogighoobdaa.VarI Go.Proofs.Ytaeeogighoobdaa.Num Go.Proofs.Ytaeeogighoobdaa.IntRow Go.Proofs.Ytaeeogighoobdaa.IntLaw Go.Proofs.Ytaeeogighoobdaa.Rdr Go.Proofs.Ytaeeogighoobdaa.Dat Go.Proofs.Ytaeeogighoobdaa.HasL Go.Proofs.Ytaeeogighoobdaa.QryP Go.Proofs.Ytaeeogighoobdaa.QryVI Go.Proofs.Ytaeeogighoobdaa.QryVS Go.Proofs.Ytaeeogighoobdaa.SetJ Go.Proofs.Ytaeeogighoobdaa.FmtP Go.Proofs.Ytaeeogighoobdaa.LawKit Go.Proofs.Ytaeeogighoobdaa.Keep Go.Proofs.Ytaeeogighoobdaa.Kept
set_option linter.unusedVariables false

set_option maxRecDepth 100000 in
theorem spec_vars (a : Option Addr) (cap B : Nat) (xs : List Int) (w : World) (hn : xs.length ≤ 1048576) (h : Rd w B a xs) :
    Calls Try.prog 54 #[.slice a xs.length cap] w fun e w' => e = .returned (.string (mkB (fv xs))) ∧ w = w' := by
  have HR := hid h
  clear h
  go_enter Try.func54, Try.ntmps54
  go_wp2
  go_loop [3, 4] (fun s i => ∃ (k : Nat) (t : ByteArray), k ≤ xs.length ∧ i = .int .i64 k ∧ s = .string t ∧ t.size ≤ k + 1 ∧ Hid (t = mkB (40 :: vns (xs.take k)))) (fun _ i => xs.length - (intOf i).toNat)
  case atStart => exact ⟨0, ⟨#[40]⟩, Nat.zero_le _, rfl, rfl, by simp [ByteArray.size], hid rfl⟩
  case round =>
    obtain ⟨k, t, hk, rfl, rfl, hts, ht⟩ := hrel
    by_cases hlt : k < xs.length
    · have hlt' : (k : Int) < (xs.length : Int) := by omega
      have h0' : (0 : Int) ≤ (k : Int) := by omega
      obtain ⟨b, off, rfl, _, hc⟩ := HR.out (by omega)
      have c0 := hc k hlt
      clear hc
      have hvs : (vname xs[k]).size ≤ 1 := by have := vn_len xs[k]; unfold vn at this; rw [size_bl] at this; exact this
      have C := hid (fun W => spec_var xs[k] W)
      obtain ⟨s, hs⟩ : ∃ z, vname xs[k] = z := ⟨_, rfl⟩
      rw [hs] at C hvs
      have hz : ¬ (9223372036854775807 < t.size + s.size) := by omega
      have hts2 : (t ++ s).size ≤ k + 1 + 1 := by rw [ByteArray.size_append]; omega
      have HN := hid (show t ++ s = mkB (40 :: vns (xs.take (k + 1))) by
        rw [ht.out, mk_app_s, vns_step xs k hlt, ← hs]
        rfl)
      clear ht hs
      go_wp2_with fail
      with_reducible refine (C.out _).mono ?_
      rintro e w2 ⟨rfl, rfl⟩
      go_wp2
      go_round
      case rel => exact ⟨k + 1, t ++ s, by omega, by go_num, rfl, hts2, HN⟩
      case measure => simp [intOf]; omega
    · have e : k = xs.length := by omega
      have HF := hid (show t ++ ⟨#[41]⟩ = mkB (fv xs) by
        rw [ht.out, e, List.take_length]
        exact mk_app _ [41])
      have hz : ¬ (9223372036854775807 < t.size + (⟨#[41]⟩ : ByteArray).size) := by rw [show (⟨#[41]⟩ : ByteArray).size = 1 from rfl]; omega
      clear ht e
      go_wp2
      go_ret
      exact ⟨by rw [← HF.out]; rfl, rfl⟩

def sc (ns : List ByteArray) : List Value := ns.map Value.string
theorem sc_set (ns : List ByteArray) (j : Nat) (s : ByteArray) : (sc ns).set j (.string s) = sc (ns.set j s) := by simp [sc, List.map_set]
theorem sc_cell {w : World} {g : Nat} {ns : List ByteArray} (h : HasL w g (sc ns)) (j : Nat) (hj : j < ns.length) : w.cell? ⟨g, j, none⟩ = some (.string ns[j]) := by
  have := (h.2 j (by simp [sc]; exact hj)).1
  simpa [sc] using this
theorem sc_free {w : World} {g : Nat} {ns : List ByteArray} (h : HasL w g (sc ns)) (j : Nat) (hj : j < ns.length) : w.frozen? ⟨g, j, none⟩ = false := (h.2 j (by simp [sc]; exact hj)).2
theorem infoS : (Try.prog.info? 9).map (fun i => (i.zero, i.size, i.bytes)) = some (some (.string ⟨#[]⟩), 1, 16) := by kernel_rfl
theorem made_s (n : Nat) : (madeCells (Value.cells (.string ⟨#[]⟩)) (n * 1)) = (sc (List.replicate n ⟨#[]⟩)).toArray := by
  refine Array.ext (by simp [madeCells, sc]) (fun i h1 h2 => by simp [madeCells, sc, Value.cells, Nat.mod_one])
/-- The first k names stand. -/
def Nms {α : Type} (f : α → ByteArray) (xs : List α) (ns : List ByteArray) (k : Nat) : Prop := ns.length = xs.length ∧ ∀ j (h : j < xs.length) (h' : j < ns.length), j < k → ns[j] = f xs[j]
theorem Nms.zero {α : Type} (f : α → ByteArray) (xs : List α) : Nms f xs (List.replicate xs.length ⟨#[]⟩) 0 := ⟨by simp, fun j _ _ h => by omega⟩
theorem Nms.step {α : Type} {f : α → ByteArray} {xs : List α} {ns : List ByteArray} {k : Nat} (h : Nms f xs ns k) (hk : k < xs.length) : Nms f xs (ns.set k (f xs[k])) (k + 1) := by
  refine ⟨by simp [h.1], fun j hj hj' hjk => ?_⟩
  by_cases e : k = j
  · subst e
    rw [List.getElem_set_self]
  · rw [List.getElem_set_ne e]
    exact h.2 j hj (by rw [List.length_set] at hj'; exact hj') (by omega)
theorem Nms.done {α : Type} {f : α → ByteArray} {xs : List α} {ns : List ByteArray} (h : Nms f xs ns xs.length) : ns = xs.map f := by
  refine List.ext_getElem (by simp [h.1]) (fun j h1 h2 => ?_)
  rw [List.getElem_map]
  exact h.2 j (by rw [← h.1]; exact h1) h1 (by rw [← h.1]; exact h1)

set_option maxRecDepth 100000 in
theorem impl_vars (a : Option Addr) (cap B : Nat) (xs : List Int) (w : World) (hn : xs.length ≤ 1048576) (h : Rd w B a xs) (hB : B ≤ w.heap.size) :
    Calls Try.prog 55 #[.slice a xs.length cap] w fun e w' => e = .returned (.string (mkB (fv xs))) ∧ Below w.heap.size w w' := by
  obtain ⟨i0, hi0, hz0, hz1, hz2⟩ := info_parts infoS
  have hmk := make_k (P := Try.prog) w 72 9 i0 _ 1 16 Try.underlying72 hi0 hz0 hz1 hz2 (by omega) xs.length hn
  rw [made_s] at hmk
  have H0 := hid (hasl_new w (sc (List.replicate xs.length ⟨#[]⟩)) 9)
  have HB0 := hid ((Below.refl w.heap.size w).alloc (Nat.le_refl _) (.cells (sc (List.replicate xs.length ⟨#[]⟩)).toArray 9))
  have HR := hid h
  clear h
  go_enter Try.func55, Try.ntmps55
  go_wp2
  go_loopw [4, 5, 11] (fun _ _ i wr => ∃ (k : Nat) (ns : List ByteArray), k ≤ xs.length ∧ i = .int .i64 k ∧ ns.length = xs.length ∧ Hid (HasL wr w.heap.size (sc ns)) ∧ Hid (Nms vname xs ns k) ∧ Hid (Below w.heap.size w wr)) (fun _ _ i _ => xs.length - (intOf i).toNat)
  case atStart => exact ⟨0, _, Nat.zero_le _, rfl, by simp, H0, hid (Nms.zero _ _), HB0⟩
  case round =>
    obtain ⟨k, ns, hk, rfl, hnl, hH, hN, hb⟩ := hrel
    clear hmk
    by_cases hlt : k < xs.length
    · have hlt' : (k : Int) < (xs.length : Int) := by omega
      have h0' : (0 : Int) ≤ (k : Int) := by omega
      obtain ⟨b, off, rfl, _, hc⟩ := (HR.out.below (hb.out.mono hB)) (by omega)
      have c0 := hc k hlt
      clear hc
      have C := hid (fun W => impl_var xs[k] W)
      have HN2 := hid (hN.out.step hlt)
      obtain ⟨s, hs⟩ : ∃ z, vname xs[k] = z := ⟨_, rfl⟩
      rw [hs] at C HN2
      have HP := hid (by have := hH.out.put k (.string s); rw [sc_set] at this; exact this)
      obtain ⟨u, d1⟩ : ∃ u, wr.cell? ⟨w.heap.size, k, none⟩ = some u := ⟨_, sc_cell hH.out k (by omega)⟩
      have d2 := sc_free hH.out k (by omega)
      have hnl2 : (ns.set k s).length = xs.length := by simp [hnl]
      clear hs hN hH
      go_wp2_with fail
      with_reducible refine (C.out _).mono ?_
      rintro e w2 ⟨rfl, rfl⟩
      clear c0
      go_wp2
      go_roundw
      case rel => exact ⟨k + 1, ns.set k s, by omega, by go_num, hnl2, HP, HN2, hid (hb.out.setCell (Nat.le_refl _) _)⟩
      case measure => simp [intOf]; omega
    · have e : k = xs.length := by omega
      have hm : ns = xs.map vname := Nms.done (by have := hN.out; rw [e] at this; exact this)
      have hHm := hH.out
      rw [hm] at hHm
      have J := hid (Try.strings_Join w.heap.size 0 xs.length (xs.map vname) ⟨#[]⟩ wr (fun j x hx => by
        obtain ⟨hj, hx'⟩ := List.getElem?_eq_some_iff.1 hx
        have := sc_cell hHm j hj
        rw [Nat.zero_add, this, hx']) hHm.1 (by rw [List.length_map]; omega) (by rw [List.length_map]; exact Nat.le_refl _) (by
        show (Lib.join ((xs.map vname).map (·.data.toList)) []).length ≤ _
        rw [join_names]
        have := vns_len xs
        omega))
      rw [show ((⟨#[]⟩ : ByteArray).data.toList) = [] from rfl, join_names, List.length_map] at J
      have hvl := vns_len xs
      obtain ⟨vs, hvs⟩ : ∃ z, vns xs = z := ⟨_, rfl⟩
      rw [hvs] at J hvl
      have HF := hid (show ((⟨#[40]⟩ : ByteArray) ++ mkB vs) ++ ⟨#[41]⟩ = mkB (fv xs) by
        show (mkB [40] ++ mkB vs) ++ mkB [41] = _
        rw [mk_app, mk_app, ← hvs]
        rfl)
      have J2 := hid (show Calls Try.prog 56 #[.slice (some ⟨w.heap.size, 0, none⟩) xs.length xs.length, .string ⟨#[]⟩] wr (fun e w' => e = .returned (.string (mkB vs)) ∧ Below wr.heap.size wr w') from J.out)
      have hms : (mkB vs).size ≤ 1048576 := by rw [size_mk]; omega
      obtain ⟨m, hm2⟩ : ∃ z, mkB vs = z := ⟨_, rfl⟩
      rw [hm2] at J2 HF hms
      have hz1' : ¬ (9223372036854775807 < (⟨#[40]⟩ : ByteArray).size + m.size) := by rw [show (⟨#[40]⟩ : ByteArray).size = 1 from rfl]; omega
      have hz2' : ¬ (9223372036854775807 < ((⟨#[40]⟩ : ByteArray) ++ m).size + (⟨#[41]⟩ : ByteArray).size) := by rw [ByteArray.size_append, show (⟨#[40]⟩ : ByteArray).size = 1 from rfl, show (⟨#[41]⟩ : ByteArray).size = 1 from rfl]; omega
      clear e hm hHm hN J hvs hm2 hH
      go_wp2_with fail
      with_reducible refine J2.out.mono ?_
      rintro e w2 ⟨rfl, hb2⟩
      have HB2 := hid (hb.out.trans (hb2.mono hb.out.size))
      clear hb2
      go_wp2
      go_ret
      exact ⟨by rw [← HF.out]; rfl, HB2.out⟩
end Go.Proofs.Ytaeeogighoobdaa.FmtQ
