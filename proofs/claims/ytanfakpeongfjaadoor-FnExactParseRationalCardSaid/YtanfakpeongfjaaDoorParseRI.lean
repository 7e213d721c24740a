/- ParseRational (impl.ParseRational) at every string. -/
import Derived.Test.YtanfakpeongfjaaDoorAtoiAny
import Derived.Test.YtanfakpeongfjaaDoorFmtAny
import Derived.Deep.RegionHeld3
namespace Go.Proofs.YtanfakpeongfjaaDoor.ParseRI
open Go.RowKit
open Go.Proofs.YtanfakpeongfjaaDoor.Num Go.Proofs.YtanfakpeongfjaaDoor.Cells Go.Proofs.YtanfakpeongfjaaDoor.Rat Go.Proofs.YtanfakpeongfjaaDoor.ReadR Go.Proofs.YtanfakpeongfjaaDoor.LaidI Go.Proofs.YtanfakpeongfjaaDoor.SentR Go.Proofs.YtanfakpeongfjaaDoor.FmtAny Go.Proofs.YtanfakpeongfjaaDoor.AtoiAny
set_option linter.unusedVariables false

theorem cell_lt {w : World} {g : Nat} {v : Value} (h : w.cell? ⟨g, 0, none⟩ = some v) : g < w.heap.size := by
  rcases Nat.lt_or_ge g w.heap.size with h1 | h1
  · exact h1
  · simp [World.cell?, Array.getElem?_eq_none h1] at h
theorem sides_len (l : List UInt8) (n : Nat) (h : l.length ≤ n) (h1 : 1 ≤ n) : (sides l).1.length ≤ n ∧ (sides l).2.length ≤ n := by
  unfold sides
  split
  · simp; omega
  · exact ⟨h, by simpa using h1⟩
theorem part (l : List UInt8) (n : Nat) (h : l.length ≤ n) : ∃ P : ByteArray, (⟨l.toArray⟩ : ByteArray) = P ∧ P.data.toList = l ∧ P.size ≤ n :=
  ⟨_, rfl, by simp, by simpa [ByteArray.size] using h⟩

set_option maxRecDepth 100000 in
theorem impl_yes (s : ByteArray) (m : Int) (w : World) (hs : s.size ≤ 1048576) (ht : Pow w) (hv : Sent w) (hm : w.cell? ⟨0, 0, none⟩ = some (.int .i64 m)) (hx : ix s < s.size) :
    Calls Tryd.prog 5 #[.string s] w fun e w' => e = endR (good s.data.toList) ∧ Below w.heap.size w w' := by
  have KR := hid (has2_new w (.int .i64 0) (.int .i64 0) 23)
  have B0 := hid ((Below.refl w.heap.size w).alloc (Nat.le_refl _) (.cells #[.int .i64 0, .int .i64 0] 23))
  have HT := hid ht
  have HV := hid hv
  have HM := hid ((B0.out.cell (p := ⟨0, 0, none⟩) (cell_lt hm)).trans hm)
  have HX := hid hx
  have HL := hid (sides_len s.data.toList 1048576 (by rw [size_of]; exact hs) (by omega))
  clear ht hv hm hx
  go_enter Tryd.func5, Tryd.ntmps5
  go_wp2_with fail
  refine (cut_yes s m _ hs HM.out HX.out).mono ?_
  rintro e w1 ⟨rfl, hb⟩
  obtain ⟨P, hPe, hPl, hPs⟩ := part (sides s.data.toList).1 1048576 HL.out.1
  rw [hPe]
  have HP := hid hPl
  clear hPe hPl
  obtain ⟨Q, hQe, hQl, hQs⟩ := part (sides s.data.toList).2 1048576 HL.out.2
  rw [hQe]
  have HQ := hid hQl
  clear hQe hQl
  have R1 := hid (KR.out.below hb)
  have B1 := hid (B0.out.trans (hb.mono B0.out.size))
  clear hb KR B0 HM HX HL
  go_wp2_with fail
  refine (atoi_any P _ hPs (HV.out.below B1.out)).mono ?_
  rintro e w2 ⟨hA, hb⟩
  rw [HP.out] at hA
  have R2 := hid (R1.out.below hb)
  have B2 := hid (B1.out.trans (hb.mono B1.out.size))
  clear hb R1 B1 HP
  rcases hA with ⟨x, hA, ⟨hx0, hx1⟩, rfl⟩ | ⟨hA, n, N, rfl⟩
  · have HA := hid hA
    clear hA
    go_wp2_with fail
    refine (atoi_any Q _ hQs (HV.out.below B2.out)).mono ?_
    rintro e w3 ⟨hB, hb⟩
    rw [HQ.out] at hB
    have R3 := hid (R2.out.below hb)
    have B3 := hid (B2.out.trans (hb.mono B2.out.size))
    clear hb R2 B2 HQ
    rcases hB with ⟨y, hB, ⟨hy0, hy1⟩, rfl⟩ | ⟨hB, n2, N2, rfl⟩
    · have HB := hid hB
      clear hB
      have R4 := hid (R3.out.alloc (.cells #[.int .i64 x, .int .i64 y] 23))
      have B4 := hid (B3.out.alloc B3.out.size (.cells #[.int .i64 x, .int .i64 y] 23))
      have K4 := hid (has2_new w3 (.int .i64 x) (.int .i64 y) 23)
      obtain ⟨l0, l1, _, _, _⟩ := K4.out
      go_wp2_with fail
      clear l0 l1
      refine (impl_fmt x y _ (HT.out.below B4.out) ⟨hx0, hx1⟩ ⟨hy0, hy1⟩).mono ?_
      rintro e w5 ⟨rfl, hb⟩
      have R5 := R4.out.below hb
      have K5 := K4.out.below hb
      have B5 := hid (B4.out.trans (hb.mono B4.out.size))
      clear hb R4 B4 K4
      have RS := R5.set (u := .int .i64 x) (v := .int .i64 y)
      have RZ := R5.set (u := .int .i64 0) (v := .int .i64 0)
      obtain ⟨k0, k1, hz4, k2, k3⟩ := R5
      obtain ⟨l0, l1, _, _, _⟩ := K5
      by_cases he : fmtL x y = s.data.toList
      · have HG := hid (good_yes HA.out he)
        have hst := str_true he
        clear he
        go_wp2_with fail
        rw [HG.out]
        exact bodyPost_ret (v := .tuple #[.agg #[.int .i64 x, .int .i64 y], .bool true]) (by simp [results, Tryd.results5, go_sem, RS.1, RS.2]) rfl ⟨rfl, (B5.out.setCell (by simp) _).setCell (by simp) _⟩
      · have HG := hid (good_no2 HA.out HB.out he)
        have hst := str_false he
        clear he
        go_wp2_with fail
        rw [HG.out]
        exact bodyPost_ret (v := .tuple #[.agg #[.int .i64 0, .int .i64 0], .bool false]) (by simp [results, Tryd.results5, go_sem, RZ.1, RZ.2]) rfl ⟨rfl, (B5.out.setCell (by simp) _).setCell (by simp) _⟩
    · have HB := hid hB
      clear hB
      have HG := hid (good_no (l := s.data.toList) (Or.inr HB.out))
      have R4 := R3.out.alloc (.cells #[.int .i64 x, .int .i64 n2] 23)
      have B4 := hid (B3.out.alloc B3.out.size (.cells #[.int .i64 x, .int .i64 n2] 23))
      have K4 := has2_new w3 (.int .i64 x) (.int .i64 n2) 23
      have RZ := R4.set (u := .int .i64 0) (v := .int .i64 0)
      obtain ⟨k0, k1, hz4, k2, k3⟩ := R4
      obtain ⟨l0, l1, _, _, _⟩ := K4
      go_wp2_with fail
      rw [HG.out]
      exact bodyPost_ret (v := .tuple #[.agg #[.int .i64 0, .int .i64 0], .bool false]) (by simp [results, Tryd.results5, go_sem, RZ.1, RZ.2]) rfl ⟨rfl, (B4.out.setCell (by simp) _).setCell (by simp) _⟩
  · have HA := hid hA
    clear hA
    go_wp2_with fail
    refine (atoi_any Q _ hQs (HV.out.below B2.out)).mono ?_
    rintro e w3 ⟨hB, hb⟩
    rw [HQ.out] at hB
    have R3 := hid (R2.out.below hb)
    have B3 := hid (B2.out.trans (hb.mono B2.out.size))
    clear hb R2 B2 HQ
    rcases hB with ⟨y, hB, ⟨hy0, hy1⟩, rfl⟩ | ⟨hB, n2, N2, rfl⟩
    · have HB := hid hB
      clear hB
      have HG := hid (good_no (l := s.data.toList) (Or.inl HA.out))
      have R4 := R3.out.alloc (.cells #[.int .i64 n, .int .i64 y] 23)
      have B4 := hid (B3.out.alloc B3.out.size (.cells #[.int .i64 n, .int .i64 y] 23))
      have K4 := has2_new w3 (.int .i64 n) (.int .i64 y) 23
      have RZ := R4.set (u := .int .i64 0) (v := .int .i64 0)
      obtain ⟨k0, k1, hz4, k2, k3⟩ := R4
      obtain ⟨l0, l1, _, _, _⟩ := K4
      go_wp2_with fail
      rw [HG.out]
      exact bodyPost_ret (v := .tuple #[.agg #[.int .i64 0, .int .i64 0], .bool false]) (by simp [results, Tryd.results5, go_sem, RZ.1, RZ.2]) rfl ⟨rfl, (B4.out.setCell (by simp) _).setCell (by simp) _⟩
    · have HB := hid hB
      clear hB
      have HG := hid (good_no (l := s.data.toList) (Or.inl HA.out))
      have R4 := R3.out.alloc (.cells #[.int .i64 n, .int .i64 n2] 23)
      have B4 := hid (B3.out.alloc B3.out.size (.cells #[.int .i64 n, .int .i64 n2] 23))
      have K4 := has2_new w3 (.int .i64 n) (.int .i64 n2) 23
      have RZ := R4.set (u := .int .i64 0) (v := .int .i64 0)
      obtain ⟨k0, k1, hz4, k2, k3⟩ := R4
      obtain ⟨l0, l1, _, _, _⟩ := K4
      go_wp2_with fail
      rw [HG.out]
      exact bodyPost_ret (v := .tuple #[.agg #[.int .i64 0, .int .i64 0], .bool false]) (by simp [results, Tryd.results5, go_sem, RZ.1, RZ.2]) rfl ⟨rfl, (B4.out.setCell (by simp) _).setCell (by simp) _⟩

set_option maxRecDepth 100000 in
theorem impl_no (s : ByteArray) (m : Int) (w : World) (hs : s.size ≤ 1048576) (ht : Pow w) (hv : Sent w) (hm : w.cell? ⟨0, 0, none⟩ = some (.int .i64 m)) (hx : ¬ ix s < s.size) :
    Calls Tryd.prog 5 #[.string s] w fun e w' => e = endR (good s.data.toList) ∧ Below w.heap.size w w' := by
  have KR := hid (has2_new w (.int .i64 0) (.int .i64 0) 23)
  have B0 := hid ((Below.refl w.heap.size w).alloc (Nat.le_refl _) (.cells #[.int .i64 0, .int .i64 0] 23))
  have HT := hid ht
  have HV := hid hv
  have HM := hid ((B0.out.cell (p := ⟨0, 0, none⟩) (cell_lt hm)).trans hm)
  have HX := hid hx
  have HL := hid (sides_len s.data.toList 1048576 (by rw [size_of]; exact hs) (by omega))
  clear ht hv hm hx
  go_enter Tryd.func5, Tryd.ntmps5
  go_wp2_with fail
  refine (cut_no s m _ hs HM.out HX.out).mono ?_
  rintro e w1 ⟨rfl, h49, hb⟩
  have H49 := hid h49
  clear h49
  obtain ⟨P, hPe, hPl, hPs⟩ := part (sides s.data.toList).1 1048576 HL.out.1
  rw [hPe]
  have HP := hid hPl
  clear hPe hPl
  have HQ := hid (show (⟨#[49]⟩ : ByteArray).data.toList = (sides s.data.toList).2 by rw [H49.out])
  have hQs : (⟨#[49]⟩ : ByteArray).size ≤ 1048576 := by decide
  clear H49
  have R1 := hid (KR.out.below hb)
  have B1 := hid (B0.out.trans (hb.mono B0.out.size))
  clear hb KR B0 HM HX HL
  go_wp2_with fail
  refine (atoi_any P _ hPs (HV.out.below B1.out)).mono ?_
  rintro e w2 ⟨hA, hb⟩
  rw [HP.out] at hA
  have R2 := hid (R1.out.below hb)
  have B2 := hid (B1.out.trans (hb.mono B1.out.size))
  clear hb R1 B1 HP
  rcases hA with ⟨x, hA, ⟨hx0, hx1⟩, rfl⟩ | ⟨hA, n, N, rfl⟩
  · have HA := hid hA
    clear hA
    go_wp2_with fail
    refine (atoi_any ⟨#[49]⟩ _ hQs (HV.out.below B2.out)).mono ?_
    rintro e w3 ⟨hB, hb⟩
    rw [HQ.out] at hB
    have R3 := hid (R2.out.below hb)
    have B3 := hid (B2.out.trans (hb.mono B2.out.size))
    clear hb R2 B2 HQ
    rcases hB with ⟨y, hB, ⟨hy0, hy1⟩, rfl⟩ | ⟨hB, n2, N2, rfl⟩
    · have HB := hid hB
      clear hB
      have R4 := hid (R3.out.alloc (.cells #[.int .i64 x, .int .i64 y] 23))
      have B4 := hid (B3.out.alloc B3.out.size (.cells #[.int .i64 x, .int .i64 y] 23))
      have K4 := hid (has2_new w3 (.int .i64 x) (.int .i64 y) 23)
      obtain ⟨l0, l1, _, _, _⟩ := K4.out
      go_wp2_with fail
      clear l0 l1
      refine (impl_fmt x y _ (HT.out.below B4.out) ⟨hx0, hx1⟩ ⟨hy0, hy1⟩).mono ?_
      rintro e w5 ⟨rfl, hb⟩
      have R5 := R4.out.below hb
      have K5 := K4.out.below hb
      have B5 := hid (B4.out.trans (hb.mono B4.out.size))
      clear hb R4 B4 K4
      have RS := R5.set (u := .int .i64 x) (v := .int .i64 y)
      have RZ := R5.set (u := .int .i64 0) (v := .int .i64 0)
      obtain ⟨k0, k1, hz4, k2, k3⟩ := R5
      obtain ⟨l0, l1, _, _, _⟩ := K5
      by_cases he : fmtL x y = s.data.toList
      · have HG := hid (good_yes HA.out he)
        have hst := str_true he
        clear he
        go_wp2_with fail
        rw [HG.out]
        exact bodyPost_ret (v := .tuple #[.agg #[.int .i64 x, .int .i64 y], .bool true]) (by simp [results, Tryd.results5, go_sem, RS.1, RS.2]) rfl ⟨rfl, (B5.out.setCell (by simp) _).setCell (by simp) _⟩
      · have HG := hid (good_no2 HA.out HB.out he)
        have hst := str_false he
        clear he
        go_wp2_with fail
        rw [HG.out]
        exact bodyPost_ret (v := .tuple #[.agg #[.int .i64 0, .int .i64 0], .bool false]) (by simp [results, Tryd.results5, go_sem, RZ.1, RZ.2]) rfl ⟨rfl, (B5.out.setCell (by simp) _).setCell (by simp) _⟩
    · have HB := hid hB
      clear hB
      have HG := hid (good_no (l := s.data.toList) (Or.inr HB.out))
      have R4 := R3.out.alloc (.cells #[.int .i64 x, .int .i64 n2] 23)
      have B4 := hid (B3.out.alloc B3.out.size (.cells #[.int .i64 x, .int .i64 n2] 23))
      have K4 := has2_new w3 (.int .i64 x) (.int .i64 n2) 23
      have RZ := R4.set (u := .int .i64 0) (v := .int .i64 0)
      obtain ⟨k0, k1, hz4, k2, k3⟩ := R4
      obtain ⟨l0, l1, _, _, _⟩ := K4
      go_wp2_with fail
      rw [HG.out]
      exact bodyPost_ret (v := .tuple #[.agg #[.int .i64 0, .int .i64 0], .bool false]) (by simp [results, Tryd.results5, go_sem, RZ.1, RZ.2]) rfl ⟨rfl, (B4.out.setCell (by simp) _).setCell (by simp) _⟩
  · have HA := hid hA
    clear hA
    go_wp2_with fail
    refine (atoi_any ⟨#[49]⟩ _ hQs (HV.out.below B2.out)).mono ?_
    rintro e w3 ⟨hB, hb⟩
    rw [HQ.out] at hB
    have R3 := hid (R2.out.below hb)
    have B3 := hid (B2.out.trans (hb.mono B2.out.size))
    clear hb R2 B2 HQ
    rcases hB with ⟨y, hB, ⟨hy0, hy1⟩, rfl⟩ | ⟨hB, n2, N2, rfl⟩
    · have HB := hid hB
      clear hB
      have HG := hid (good_no (l := s.data.toList) (Or.inl HA.out))
      have R4 := R3.out.alloc (.cells #[.int .i64 n, .int .i64 y] 23)
      have B4 := hid (B3.out.alloc B3.out.size (.cells #[.int .i64 n, .int .i64 y] 23))
      have K4 := has2_new w3 (.int .i64 n) (.int .i64 y) 23
      have RZ := R4.set (u := .int .i64 0) (v := .int .i64 0)
      obtain ⟨k0, k1, hz4, k2, k3⟩ := R4
      obtain ⟨l0, l1, _, _, _⟩ := K4
      go_wp2_with fail
      rw [HG.out]
      exact bodyPost_ret (v := .tuple #[.agg #[.int .i64 0, .int .i64 0], .bool false]) (by simp [results, Tryd.results5, go_sem, RZ.1, RZ.2]) rfl ⟨rfl, (B4.out.setCell (by simp) _).setCell (by simp) _⟩
    · have HB := hid hB
      clear hB
      have HG := hid (good_no (l := s.data.toList) (Or.inl HA.out))
      have R4 := R3.out.alloc (.cells #[.int .i64 n, .int .i64 n2] 23)
      have B4 := hid (B3.out.alloc B3.out.size (.cells #[.int .i64 n, .int .i64 n2] 23))
      have K4 := has2_new w3 (.int .i64 n) (.int .i64 n2) 23
      have RZ := R4.set (u := .int .i64 0) (v := .int .i64 0)
      obtain ⟨k0, k1, hz4, k2, k3⟩ := R4
      obtain ⟨l0, l1, _, _, _⟩ := K4
      go_wp2_with fail
      rw [HG.out]
      exact bodyPost_ret (v := .tuple #[.agg #[.int .i64 0, .int .i64 0], .bool false]) (by simp [results, Tryd.results5, go_sem, RZ.1, RZ.2]) rfl ⟨rfl, (B4.out.setCell (by simp) _).setCell (by simp) _⟩

theorem impl_parse (s : ByteArray) (m : Int) (w : World) (hs : s.size ≤ 1048576) (ht : Pow w) (hv : Sent w) (hm : w.cell? ⟨0, 0, none⟩ = some (.int .i64 m)) :
    Calls Tryd.prog 5 #[.string s] w fun e w' => e = endR (good s.data.toList) ∧ Below w.heap.size w w' := by
  by_cases hx : ix s < s.size
  · exact impl_yes s m w hs ht hv hm hx
  · exact impl_no s m w hs ht hv hm hx
end Go.Proofs.YtanfakpeongfjaaDoor.ParseRI
