/- The model of ParseRational (spec.ParseRational) at every string. -/
import Derived.Test.YtanfakpeongfjaaDoorNumCall
import Derived.Test.YtanfakpeongfjaaDoorFmtAny
namespace Go.Proofs.YtanfakpeongfjaaDoor.ParseRS
open Go.RowKit
open Go.Proofs.YtanfakpeongfjaaDoor.Num Go.Proofs.YtanfakpeongfjaaDoor.Cells Go.Proofs.YtanfakpeongfjaaDoor.Rat Go.Proofs.YtanfakpeongfjaaDoor.ReadR Go.Proofs.YtanfakpeongfjaaDoor.NumCall Go.Proofs.YtanfakpeongfjaaDoor.FmtAny
set_option linter.unusedVariables false

theorem has2_far {w : World} {b g i : Nat} {x y : Value} (h : Has2 w b x y) (hne : b ≠ g) (u : Value) : Has2 (w.setCell ⟨g, i, none⟩ u) b x y := by
  have hz : ∀ k, (⟨g, i, none⟩ : Addr) ≠ ⟨b, k, none⟩ := fun k e => hne (congrArg Addr.block e).symm
  obtain ⟨h0, h1, h2, h3, h4⟩ := h
  exact ⟨by rw [World.cell?_setCell_other _ _ _ _ (hz 0), h0], by rw [World.cell?_setCell_other _ _ _ _ (hz 1), h1], by simpa using h2, by rw [World.frozen?_setCell]; exact h3, by rw [World.frozen?_setCell]; exact h4⟩
theorem has2_put1 {w : World} {b : Nat} {x y u : Value} (h : Has2 w b x y) : Has2 (w.setCell ⟨b, 1, none⟩ u) b x u := by
  obtain ⟨h0, h1, h2, h3, h4⟩ := h
  exact ⟨by rw [World.cell?_setCell_other _ _ _ _ (by simp)]; exact h0, World.cell?_setCell_same _ _ _ h1, by simpa using h2, by rw [World.frozen?_setCell]; exact h3, by rw [World.frozen?_setCell]; exact h4⟩
theorem has2_put0 {w : World} {b : Nat} {x y u : Value} (h : Has2 w b x y) : Has2 (w.setCell ⟨b, 0, none⟩ u) b u y := by
  obtain ⟨h0, h1, h2, h3, h4⟩ := h
  exact ⟨World.cell?_setCell_same _ _ _ h0, by rw [World.cell?_setCell_other _ _ _ _ (by simp)]; exact h1, by simpa using h2, by rw [World.frozen?_setCell]; exact h3, by rw [World.frozen?_setCell]; exact h4⟩

theorem empty_true {s : ByteArray} (h : s.data.toList = []) : s.toList.isEmpty = true := by
  rw [Lib.toList_data, h]; rfl
theorem empty_false {s : ByteArray} (h : ¬ s.data.toList = []) : s.toList.isEmpty = false := by
  rw [Lib.toList_data]
  cases h' : s.data.toList with
  | nil => exact absurd h' h
  | cons _ _ => rfl

theorem spec_parse (s : ByteArray) (w : World) (hs : s.size ≤ 1048576) :
    Calls Tryd.prog 4 #[.string s] w fun e w' => e = endR (good s.data.toList) ∧ Below w.heap.size w w' := by
  have KR := hid ((has2_new w (.int .i64 0) (.int .i64 0) 23).alloc (.cells #[.int .i64 0, .int .i64 1] 23))
  have KA := hid (has2_new (w.alloc (.cells #[.int .i64 0, .int .i64 0] 23)) (.int .i64 0) (.int .i64 1) 23)
  have B0 := hid (((Below.refl w.heap.size w).alloc (Nat.le_refl _) (.cells #[.int .i64 0, .int .i64 0] 23)).alloc (by simp) (.cells #[.int .i64 0, .int .i64 1] 23))
  simp only [World.size_alloc] at KA
  go_enter Tryd.func4, Tryd.ntmps4
  go_wp2_with fail
  go_loop [4] (fun i => ∃ j : Nat, j ≤ s.size ∧ j ≤ ix s ∧ i = .int .i64 j) (fun i => s.size + 1 - (intOf i).toNat)
  case atStart => exact ⟨0, Nat.zero_le _, Nat.zero_le _, rfl⟩
  case round =>
    obtain ⟨j, hj, hix, rfl⟩ := hrel
    by_cases hlt : j < s.size
    · cases hc : (((s[j].toNat : Nat) : Int) == 47)
      · have hn := hid (ix_step s j hlt hix hc)
        have hc2 : (((s[j].toNat : Nat) : Int) != 47) = true := by simp [bne, hc]
        go_wp2
        go_round
        case rel => exact ⟨j + 1, by omega, hn.out, by go_num⟩
        case measure => simp [intOf]; omega
      · have hst := ix_stop s j hlt hix hc
        have hmr := mr_some s (by omega)
        rw [hst] at hmr
        have HM := hid hmr
        clear hmr hst
        have hc2 : (((s[j].toNat : Nat) : Int) != 47) = false := by simp [bne, hc]
        go_wp2_with fail
        refine (num_any _ _ (by simp; omega)).mono ?_
        rintro e w2 ⟨rfl, hb⟩
        have hbx := l2_bd (s.extract 0 j).data.toList
        generalize l2 (s.extract 0 j).data.toList = x at hbx HM ⊢
        obtain ⟨hbx0, hbx1⟩ := hbx
        have R2 := hid (KR.out.below hb)
        have A2 := hid (KA.out.below hb)
        have B2 := hid (B0.out.trans (hb.mono B0.out.size))
        clear hb KR KA B0
        have hz2 : w.heap.size + 1 < w2.heap.size := A2.out.2.2.1
        have R3 := hid (has2_far (i := 0) R2.out (Nat.ne_of_lt (Nat.lt_succ_self w.heap.size)) (.int .i64 x))
        have A3 := hid (has2_put0 (u := .int .i64 x) A2.out)
        have B3 := hid (B2.out.setCell (p := ⟨w.heap.size + 1, 0, none⟩) (Nat.le_succ _) (.int .i64 x))
        obtain ⟨k0, k1, _, k2, k3⟩ := A2.out
        go_wp2_with fail
        clear k0 k1 k2 k3
        refine (num_any _ _ (by simp; omega)).mono ?_
        rintro e w3 ⟨rfl, hb⟩
        have hby := l2_bd (s.extract (j + 1) s.size).data.toList
        generalize l2 (s.extract (j + 1) s.size).data.toList = y at hby HM ⊢
        obtain ⟨hby0, hby1⟩ := hby
        have R4 := hid (R3.out.below hb)
        have A4 := hid (A3.out.below hb)
        have B4 := hid (B3.out.trans (hb.mono B3.out.size))
        clear hb R2 R3 A2 A3 B2 B3
        have R5 := hid (has2_far (i := 1) R4.out (Nat.ne_of_lt (Nat.lt_succ_self w.heap.size)) (.int .i64 y))
        have A5 := hid (has2_put1 (u := .int .i64 y) A4.out)
        have B5 := hid (B4.out.setCell (p := ⟨w.heap.size + 1, 1, none⟩) (Nat.le_succ _) (.int .i64 y))
        obtain ⟨k0, k1, _, k2, k3⟩ := A4.out
        obtain ⟨l0, l1, _, _, _⟩ := A5.out
        go_wp2_with fail
        clear k0 k1 k2 k3 l0 l1 R4 A4 B4
        refine (spec_fmt x y _ (by omega) (by omega)).mono ?_
        rintro e w4 ⟨rfl, hb⟩
        have R6 := R5.out.below hb
        have A6 := A5.out.below hb
        have B6 := hid (B5.out.trans (hb.mono B5.out.size))
        clear hb R5 A5 B5
        have RS := R6.set (u := .int .i64 x) (v := .int .i64 y)
        have RZ := R6.set (u := .int .i64 0) (v := .int .i64 0)
        obtain ⟨k0, k1, hz4, k2, k3⟩ := R6
        obtain ⟨l0, l1, _, _, _⟩ := A6
        by_cases he : fmtL x y = s.data.toList
        · have hst := str_true he
          by_cases hz : s.data.toList = []
          · have hg := hid (good_not (Or.inr hz))
            have HG := hid hg.out
            have hst2 := empty_true hz
            clear hg he hz
            go_wp2_with fail
            rw [HG.out]
            exact bodyPost_ret (v := .tuple #[.agg #[.int .i64 0, .int .i64 0], .bool false]) (by simp [results, Tryd.results4, go_sem, RZ.1, RZ.2]) rfl ⟨rfl, (B6.out.setCell (by simp) _).setCell (by simp) _⟩
          · have hg : good s.data.toList = some (x, y) := by rw [good_mk hz (by rw [HM.out]; exact he), HM.out]
            have HG := hid hg
            have hst2 := empty_false hz
            clear hg he hz
            go_wp2_with fail
            rw [HG.out]
            exact bodyPost_ret (v := .tuple #[.agg #[.int .i64 x, .int .i64 y], .bool true]) (by simp [results, Tryd.results4, go_sem, RS.1, RS.2]) rfl ⟨rfl, (B6.out.setCell (by simp) _).setCell (by simp) _⟩
        · have hg := good_not (l := s.data.toList) (Or.inl (by rw [HM.out]; exact he))
          have HG := hid hg
          have hst := str_false he
          clear hg he
          go_wp2_with fail
          rw [HG.out]
          exact bodyPost_ret (v := .tuple #[.agg #[.int .i64 0, .int .i64 0], .bool false]) (by simp [results, Tryd.results4, go_sem, RZ.1, RZ.2]) rfl ⟨rfl, (B6.out.setCell (by simp) _).setCell (by simp) _⟩
    · have hst : ix s = s.size := by have := ix_le s; omega
      have hmr := mr_none s hst
      have hjs : s.size = j := by omega
      rw [hjs] at hmr
      have HM := hid hmr
      clear hmr hst
      go_wp2_with fail
      refine (num_any _ _ (by simp; omega)).mono ?_
      rintro e w2 ⟨rfl, hb⟩
      have hbx := l2_bd (s.extract 0 j).data.toList
      generalize l2 (s.extract 0 j).data.toList = x at hbx HM ⊢
      obtain ⟨hbx0, hbx1⟩ := hbx
      have R2 := hid (KR.out.below hb)
      have A2 := hid (KA.out.below hb)
      have B2 := hid (B0.out.trans (hb.mono B0.out.size))
      clear hb KR KA B0
      have hz2 : w.heap.size + 1 < w2.heap.size := A2.out.2.2.1
      have R3 := hid (has2_far (i := 0) R2.out (Nat.ne_of_lt (Nat.lt_succ_self w.heap.size)) (.int .i64 x))
      have A3 := hid (has2_put0 (u := .int .i64 x) A2.out)
      have B3 := hid (B2.out.setCell (p := ⟨w.heap.size + 1, 0, none⟩) (Nat.le_succ _) (.int .i64 x))
      obtain ⟨k0, k1, _, k2, k3⟩ := A2.out
      have R5 := hid R3.out
      have A5 := hid A3.out
      have B5 := hid B3.out
      clear R3 A3 B3
      obtain ⟨l0, l1, _, _, _⟩ := A5.out
      go_wp2_with fail
      clear k0 k1 k2 k3 l0 l1 R2 A2 B2
      refine (spec_fmt x 1 _ (by omega) (by omega)).mono ?_
      rintro e w4 ⟨rfl, hb⟩
      have R6 := R5.out.below hb
      have A6 := A5.out.below hb
      have B6 := hid (B5.out.trans (hb.mono B5.out.size))
      clear hb R5 A5 B5
      have RS := R6.set (u := .int .i64 x) (v := .int .i64 1)
      have RZ := R6.set (u := .int .i64 0) (v := .int .i64 0)
      obtain ⟨k0, k1, hz4, k2, k3⟩ := R6
      obtain ⟨l0, l1, _, _, _⟩ := A6
      by_cases he : fmtL x 1 = s.data.toList
      · have hst := str_true he
        by_cases hz : s.data.toList = []
        · have hg := hid (good_not (Or.inr hz))
          have HG := hid hg.out
          have hst2 := empty_true hz
          clear hg he hz
          go_wp2_with fail
          rw [HG.out]
          exact bodyPost_ret (v := .tuple #[.agg #[.int .i64 0, .int .i64 0], .bool false]) (by simp [results, Tryd.results4, go_sem, RZ.1, RZ.2]) rfl ⟨rfl, (B6.out.setCell (by simp) _).setCell (by simp) _⟩
        · have hg : good s.data.toList = some (x, 1) := by rw [good_mk hz (by rw [HM.out]; exact he), HM.out]
          have HG := hid hg
          have hst2 := empty_false hz
          clear hg he hz
          go_wp2_with fail
          rw [HG.out]
          exact bodyPost_ret (v := .tuple #[.agg #[.int .i64 x, .int .i64 1], .bool true]) (by simp [results, Tryd.results4, go_sem, RS.1, RS.2]) rfl ⟨rfl, (B6.out.setCell (by simp) _).setCell (by simp) _⟩
      · have hg := good_not (l := s.data.toList) (Or.inl (by rw [HM.out]; exact he))
        have HG := hid hg
        have hst := str_false he
        clear hg he
        go_wp2_with fail
        rw [HG.out]
        exact bodyPost_ret (v := .tuple #[.agg #[.int .i64 0, .int .i64 0], .bool false]) (by simp [results, Tryd.results4, go_sem, RZ.1, RZ.2]) rfl ⟨rfl, (B6.out.setCell (by simp) _).setCell (by simp) _⟩

end Go.Proofs.YtanfakpeongfjaaDoor.ParseRS
