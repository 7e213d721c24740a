/- The draw of a big integer (spec.l3Big): some row of the call's own. -/
import Derived.Test.YtanfakpeongfjaaPick
import Derived.Test.YtanfakpeongfjaaIntLaw
import Derived.Deep.RegionLaw
import Derived.Deep.RegionWith
import Derived.Deep.DeepMust
import Derived.Deep.DeepCutAuto
namespace Go.Proofs.Ytanfakpeongfjaa.DrawBig
open Go.RowKit
open Go.Proofs.Ytanfakpeongfjaa.Num Go.Proofs.Ytanfakpeongfjaa.Row Go.Proofs.Ytanfakpeongfjaa.Cur Go.Proofs.Ytanfakpeongfjaa.Draw Go.Proofs.Ytanfakpeongfjaa.Pick Go.Proofs.Ytanfakpeongfjaa.IntRow Go.Proofs.Ytanfakpeongfjaa.IntLaw
set_option linter.unusedVariables false

section
variable {P : Program}
/-- 'append(v, z)' as one step of a region that draws its order. -/
theorem step_int {ops : Array Oper} {o : Oper} {a : Act} {K : Act → World → Prop} {Q : Exit → Act → World → Prop} {E : Prop} (hgd : o.guard = none) (s x : Operand) (t : TypeId)
    (ho : o.op = .call { callee := .builtin .append, args := #[s, x], argTypes := #[t, t] })
    (base : Nat) (e : TypeId) (i : TypeInfo) (ht : P.underlying t = some (.slice e)) (hi : P.info? e = some i) (hz : i.zero = some (.int .i64 0))
    (hsize : i.size = 1) (hby : i.bytes = 8) (wr : World) (v : Value) (l : List Int) (z : Int) (hown : Own wr base e v l) (hs : a.eval s = v) (hbase : base ≤ wr.heap.size)
    (hx : a.eval x = .slice (some ⟨wr.heap.size, 0, none⟩) 1 1) (hlen : l.length ≤ 8796093022208)
    (h : ∀ v' w', Own w' base e v' (l ++ [z]) → wr.grownBy w' v.ownBlock → K (a.put o.dst v') w') :
    if Region.wanted o (yielded ops a.tmps) = true then Oper.wp P o a (wr.alloc (.cells #[.int .i64 z] e)) K Q else E := by
  have hw : Region.wanted o (yielded ops a.tmps) = true := by simp [Region.wanted, hgd]
  rw [if_pos hw]
  refine wp_append_own _ s x t ho base e i (.int .i64 0) 1 8 ht hi hz hsize hby rfl (by decide) v l.length (ic l) hs (hown.alloc _) ⟨wr.heap.size, 0, none⟩ 1 1 (ic [z]) hx rfl ?_ ?_ ?_ ?_ ?_ ?_
  · intro j u hj
    match j, hj with
    | 0, hj => simp [ic] at hj; subst hj; simp [Addr.add]
    | j + 1, hj => simp [ic] at hj
  · intro u hu; simp [ic] at hu; subst hu; rfl
  · unfold maxLen; omega
  · omega
  · simp; omega
  · intro v' w' hown' hgrow _
    refine h v' w' ?_ ?_
    · unfold Own
      rw [ic_append]
      simpa using hown'
    · exact ⟨hgrow.os, hgrow.tape, hgrow.output, by have := hgrow.size; simp at this; omega, fun k hk hne => (hgrow.block k (by simp; omega) hne).trans (Below.heap_alloc _ _ _ hk)⟩
end

/-- A small draw: some number below n; the cursor moved. -/
def Drew (c : Nat) (sv : Value) (l : List UInt8) (n : Int) (w : World) (e : Ending) (w' : World) : Prop :=
  ∃ (x : Nat) (s : St), e = .returned (.int .i64 x) ∧ (x : Int) < n ∧ Cu w' c sv l s ∧ w.grownBy w' (some c)
theorem below_pos (c : Nat) (n : Int) (sv : Value) (l : List UInt8) (s : St) (w : World) (hc : Cu w c sv l s) (h0 : 1 ≤ n) (hn : n ≤ 256) :
    Calls Try.prog 69 #[.pointer (some ⟨c, 0, none⟩), .int .i64 n] w (Drew c sv l n w) := by
  have hbd := belowF_bounds l n s h0
  refine (below_any c n sv l s w hc (by omega)).mono ?_
  rintro e w' ⟨he, h1, h2⟩
  generalize belowF l n s = r at hbd he h1
  obtain ⟨x, s1⟩ := r
  obtain ⟨x0, x1⟩ := hbd
  simp only at *
  obtain ⟨m, rfl⟩ := Int.eq_ofNat_of_zero_le x0
  exact ⟨m, s1, he, x1, h1, h2⟩
def Tossed (c : Nat) (sv : Value) (l : List UInt8) (w : World) (e : Ending) (w' : World) : Prop :=
  ∃ (b : Bool) (s : St), e = .returned (.bool b) ∧ Cu w' c sv l s ∧ w.grownBy w' (some c)
theorem toss (c : Nat) (n : Int) (sv : Value) (l : List UInt8) (s : St) (w : World) (hc : Cu w c sv l s) (hn : n ≤ 256) :
    Calls Try.prog 70 #[.pointer (some ⟨c, 0, none⟩), .int .i64 n] w (Tossed c sv l w) :=
  (once_any c n sv l s w hc (by omega)).mono fun e w' ⟨he, h1, h2⟩ => ⟨_, _, he, h1, h2⟩

/-- Some big integer in a row of the call's own; the cursor moved; nothing else of what was there is turned. -/
def BigAt (c : Nat) (sv : Value) (l : List UInt8) (w : World) (e : Ending) (w' : World) : Prop :=
  ∃ (xs : List Int) (a : Option Addr) (cap : Nat) (s : St), e = .returned (.agg #[.slice a xs.length cap]) ∧ xs.length ≤ 100 ∧ Own w' w.heap.size 3 (.slice a xs.length cap) xs ∧ Cu w' c sv l s ∧ w.grownBy w' (some c)

theorem cu_one {w : World} {c b : Nat} {sv : Value} {l : List UInt8} {s : St} (hc : Cu w c sv l s) (hb : c < b) (u : Value) : Cu (w.setCell ⟨b, 0, none⟩ u) c sv l s :=
  hc.below (B := c + 1) ((Below.refl _ _).setCell (p := ⟨b, 0, none⟩) (by show c + 1 ≤ b; omega) u) (by omega)

theorem grown_fresh {w a b : World} {row row2 : Option Nat} (h : w.grownBy a row) (g : a.grownBy b row2) (hr : ∀ q, row2 = some q → w.heap.size ≤ q) : w.grownBy b row :=
  ⟨g.os.trans h.os, g.tape.trans h.tape, g.output.trans h.output, Nat.le_trans h.size g.size, fun k hk hne => (g.block k (Nat.lt_of_lt_of_le hk h.size) (fun e => by have := hr k e.symm; omega)).trans (h.block k hk hne)⟩
theorem grown_far {w a : World} {row : Option Nat} (h : w.grownBy a row) {b i : Nat} (hb : w.heap.size ≤ b) (u : Value) : w.grownBy (a.setCell ⟨b, i, none⟩ u) row :=
  ⟨h.os, h.tape, h.output, by simp; exact h.size, fun k hk hne => (Below.heap_setCell _ _ _ _ (by simp only; omega)).trans (h.block k hk hne)⟩
theorem grown_dr {w a b : World} {row : Option Nat} (h : w.grownBy a row) (g : a.drew.grownBy b row) : w.grownBy b row :=
  IntRow.grown_trans (show w.grownBy a.drew row from ⟨h.os, h.tape, h.output, h.size, h.block⟩) g
theorem cu_grown {w w' : World} {c : Nat} {sv : Value} {l : List UInt8} {s : St} {row : Option Nat} (hc : Cu w c sv l s) (hg : w.grownBy w' row) (hr : ∀ q, row = some q → c < q) : Cu w' c sv l s :=
  hc.below (B := c + 1) ((Below.refl _ _).grown hg hc.lt (fun q hq => hr q hq)) (by omega)

theorem at_grown {w w' : World} {g : Nat} {e : TypeId} {cap : Nat} {xs : List Int} {row : Option Nat} (h : At w g e cap xs) (hg : w.grownBy w' row) (hne : row ≠ some g) : At w' g e cap xs :=
  Own.grown (lo := g) h hg (fun q hq e => hne (by rw [e]; exact hq.symm))

theorem cu_set {w : World} {c b i : Nat} {sv : Value} {l : List UInt8} {s : St} (hc : Cu w c sv l s) (hb : c < b) (u : Value) : Cu (w.setCell ⟨b, i, none⟩ u) c sv l s :=
  hc.below (B := c + 1) ((Below.refl _ _).setCell (p := ⟨b, i, none⟩) (by show c + 1 ≤ b; omega) u) (by omega)

theorem list_cell (zs : List Int) (j : Nat) (hj : j < zs.length) : ((zs.map (Value.int .i64)).toArray)[j]? = some (.int .i64 (zs.getD j 0)) := by
  simp [List.getD, hj]
/-- The draw out of the two numbers that are no digits: made block and all. -/
theorem pick_two (c : Nat) (sv : Value) (l : List UInt8) (s : St) (w : World) (hc : Cu w.drew c sv l s) (W : World) (hW : W = w.drew.alloc (.cells #[.int .i64 (-1), .int .i64 10] 3)) :
    Calls Try.prog 60 #[.pointer (some ⟨c, 0, none⟩), .slice (some ⟨w.heap.size, 0, none⟩) 2 2] W fun e w' => ∃ (x : Int) (s' : St), e = .returned (.int .i64 x) ∧ Cu w' c sv l s' ∧ W.grownBy w' (some c) := by
  subst hW
  have hlt : c < w.heap.size := hc.lt
  refine (pick_any c sv l s _ (hc.below (B := w.drew.heap.size) ((Below.refl w.drew.heap.size w.drew).alloc (Nat.le_refl _) _) hlt) w.heap.size 2 [-1, 10] (by decide) (by decide) (by omega) ?_).mono ?_
  · intro j hj
    refine (World.cell?_alloc_at _ _ _ _ rfl).trans ?_
    exact list_cell [-1, 10] j hj
  · rintro e w' ⟨he, h1, h2⟩
    exact ⟨_, _, he, h1, h2⟩

set_option maxHeartbeats 2000000 in
theorem draw_big (c : Nat) (sv : Value) (l : List UInt8) (s : St) (w : World) (hc : Cu w c sv l s) :
    Calls Try.prog 55 #[.pointer (some ⟨c, 0, none⟩)] w (BigAt c sv l w) := by
  obtain ⟨i0, hi, hz0, hz1, hz2⟩ := info_parts info
  have hcw := hc.lt
  have K := hid (one_new w (.slice none 0 0) 34)
  have C := hid (hc.below (B := w.heap.size) ((Below.refl _ _).alloc (Nat.le_refl _) (.cells #[.slice none 0 0] 34)) hcw)
  have G := hid (World.grownBy_alloc w (.cells #[.slice none 0 0] 34) (some c))
  clear hc
  go_enter Try.func55, Try.ntmps55
  go_wp2_with fail
  refine (below_pos c 7 sv l s _ C.out (by omega) (by omega)).mono ?_
  rintro e w1 ⟨n0, s1, rfl, hn0, C1, g1⟩
  replace K := hid (K.out.grown g1 (fun e => by have e2 := Option.some.inj e; omega))
  replace G := hid (IntRow.grown_trans G.out g1)
  replace C := hid C1
  clear C1 g1
  go_wp2_with fail
  refine (toss c 9 sv l s1 _ C.out (by omega)).mono ?_
  rintro e w2 ⟨b, s2, rfl, C1, g1⟩
  replace K := hid (K.out.grown g1 (fun e => by have e2 := Option.some.inj e; omega))
  replace G := hid (IntRow.grown_trans G.out g1)
  replace C := hid C1
  clear C1 g1
  go_upto_if 9 with fail
  go_cut [3] (fun s3 wx => ∃ (n : Nat) (s' : St), s3 = .int .i64 n ∧ n ≤ 61 ∧ Cu wx c sv l s' ∧ One wx w.heap.size (.slice none 0 0) ∧ w.grownBy wx (some c))
  case first =>
    cases b with
    | true =>
      go_wp2_with fail
      refine (below_pos c 34 sv l s2 _ C.out (by omega) (by omega)).mono ?_
      rintro e w3 ⟨n1, s3, rfl, hn1, C1, g1⟩
      replace K := hid (K.out.grown g1 (fun e => by have e2 := Option.some.inj e; omega))
      replace G := hid (IntRow.grown_trans G.out g1)
      replace C := hid C1
      clear C1 g1
      go_wp2_with fail
      go_meet
      exact ⟨28 + n1, s3, by go_num, by omega, C.out, K.out, G.out⟩
    | false =>
      go_wp2_with fail
      go_meet
      exact ⟨n0, s2, rfl, by omega, C.out, K.out, G.out⟩
  case rest =>
    clear C K G
    obtain ⟨n, s3, rfl, hn, C0, K0, G0⟩ := hcut
    obtain ⟨wq, rfl⟩ : ∃ wo : World, wo = wc := ⟨_, rfl⟩
    have hzw := K0.2.2
    have C := hid (C0.below (B := wq.heap.size) ((Below.refl _ _).alloc (Nat.le_refl _) (.cells #[.slice none 0 0] 34)) (by omega))
    have K := hid (K0.alloc (.cells #[.slice none 0 0] 34))
    have O := hid (one_new wq (.slice none 0 0) 34)
    have G := hid (IntRow.grown_trans G0 (World.grownBy_alloc wq (.cells #[.slice none 0 0] 34) (some c)))
    clear C0 K0 G0
    go_wp2
    go_loopw [5] (fun iv wr => ∃ (k : Nat) (xs : List Int) (a : Option Addr) (cap : Nat) (s' : St), iv = .int .i64 k ∧ k ≤ n ∧ Hid (xs.length = k) ∧ One wr wq.heap.size (.slice a xs.length cap) ∧ Own wr (wq.heap.size + 1) 3 (.slice a xs.length cap) xs ∧ Cu wr c sv l s' ∧ One wr w.heap.size (.slice none 0 0) ∧ w.grownBy wr (some c) ∧ wq.heap.size + 1 ≤ wr.heap.size) (fun iv _ => n - (intOf iv).toNat)
    case atStart => exact ⟨0, [], none, 0, s3, rfl, Nat.zero_le _, hid rfl, O.out, Own.nil _ _ _, C.out, K.out, G.out, by simp⟩
    case round =>
      clear C K O G
      obtain ⟨k, xs, a, cap, s4, rfl, hk, hxl, O, V, C, K, G, hsz⟩ := hrel
      by_cases hlt : k < n
      · have HC := hid C.drew
        have HV := hid V.drew
        have HO := hid O.drew
        have HK := hid K.drew
        have hlen : xs.length ≤ 61 := by rw [hxl.out]; omega
        obtain ⟨c1, f1, z1⟩ := O
        have GD := hid G
        clear C V K G
        go_wp2
        go_region_law (first
          | (refine step_int rfl _ _ 32 rfl (wq.heap.size + 1) 3 i0 Try.underlying32 hi hz0 hz1 hz2 w3 _ xs (x : Int) HV3.out (by rfl) hz3 (by rfl) (by omega) ?_; intro v1 w4 hown4 hgr4; obtain ⟨a1, cap1, hve, _, _, _⟩ := hown4.form; rw [List.length_append, List.length_singleton] at hve; subst hve; have HO4 := hid (HO3.out.grown hgr4 (fun e => by have h1 := (HV3.out.lt _ e).1; omega)); obtain ⟨c4, f4, z4⟩ := HO4.out; have HV4 := hid hown4; have HG4 := hid hgr4; clear hown4 hgr4)
          | (go_simp; go_at_call 69; go_must (refine (below_pos c 10 sv l s4 _ HC.out (by omega) (by omega)).mono ?_); rintro e w3 ⟨x, s5, rfl, hx10, C1, g1⟩; have HC3 := hid C1; have HG3 := hid g1; have hz3 : wq.heap.size + 1 ≤ w3.heap.size := Nat.le_trans hsz g1.size; have HV3 := hid (HV.out.grown g1 (fun q hq e => by have e2 := Option.some.inj e; have h1 := (HV.out.lt q hq).1; omega)); have HO3 := hid (HO.out.grown g1 (fun e => by have e2 := Option.some.inj e; omega)); have HK3 := hid (HK.out.grown g1 (fun e => by have e2 := Option.some.inj e; omega)); obtain ⟨c3, f3, z3⟩ := HO3.out; clear C1 g1))
        all_goals
          have hcq : c < wq.heap.size := by omega
          have eN := hid (show (xs ++ [(x : Int)]).length = xs.length + 1 by simp)
          have rel1 := hid (HO4.out.set (.slice a1 (xs.length + 1) cap1))
          have rel2 := hid (own_far HV4.out (p := ⟨wq.heap.size, 0, none⟩) (by simp) (.slice a1 (xs.length + 1) cap1))
          have rel3 := hid (cu_one (cu_grown HC3.out HG4.out (fun q hq => by have h1 := (HV3.out.lt q hq).1; omega)) hcq (.slice a1 (xs.length + 1) cap1))
          have rel4 := hid ((HK3.out.grown HG4.out (fun e => by have h1 := (HV3.out.lt _ e).1; omega)).far (p := ⟨wq.heap.size, 0, none⟩) (by simp only; omega) (.slice a1 (xs.length + 1) cap1))
          have rel5 := hid (grown_far (b := wq.heap.size) (i := 0) (grown_fresh (grown_dr GD.out HG3.out) HG4.out (fun q hq => by have h1 := (HV3.out.lt q hq).1; omega)) (by omega) (.slice a1 (xs.length + 1) cap1))
          have hz4 := HG4.out.size
          clear HC3 HV3 HO3 HK3 HG3 HV4 HO4 HC HV HO HK GD
          go_wp2
          go_roundw
          case rel => exact ⟨k + 1, xs ++ [(x : Int)], a1, cap1, s5, by go_num, by omega, hid (by rw [eN.out, hxl.out]), by rw [eN.out]; exact rel1.out, by rw [eN.out]; exact rel2.out, rel3.out, rel4.out, rel5.out, by simp; omega⟩
          case measure => simp [intOf]; omega
      · have hkn : k = n := by omega
        have hxn := hid (show xs.length = n by rw [hxl.out]; exact hkn)
        have hLV := hid V.lt
        replace O := hid O
        replace V := hid V
        replace C := hid C
        replace K := hid K
        replace G := hid G
        clear hxl
        subst hkn
        by_cases h0 : k = 0
        · subst h0
          have hr := hid (K.out.set (.slice a xs.length cap)).1
          have hV2 := hid (own_far V.out (p := ⟨w.heap.size, 0, none⟩) (by simp only; omega) (.slice a xs.length cap))
          have hC2 := hid (cu_one C.out hcw (.slice a xs.length cap))
          have hG2 := hid (grown_far (b := w.heap.size) (i := 0) G.out (Nat.le_refl _) (.slice a xs.length cap))
          obtain ⟨c1, f1, z1⟩ := O.out
          obtain ⟨c2, f2, z2⟩ := K.out
          go_wp2
          have hr2 := hr.out
          refine bodyPost_ret (v := .agg #[.slice a xs.length cap]) (by simp [results, Try.results55, go_sem, hr2]) rfl ⟨xs, a, cap, s4, rfl, by rw [hxn.out]; omega, hV2.out.mono (by omega), hC2.out, hG2.out⟩
        · have hpos : 0 < xs.length := by rw [hxn.out]; omega
          rcases own_at V.out with ⟨hv, hnil⟩ | ⟨g, cap2, hv, hg, hat⟩
          · rw [hnil] at hpos; simp at hpos
          · simp only [Value.slice.injEq, true_and] at hv
            obtain ⟨rfl, rfl⟩ := hv
            replace hat := hid hat
            have hgz : g < wr.heap.size := hat.out.lt
            have O2 := O
            rw [hxn.out] at O2
            have t0 : decide ((0 : Int) < (k : Int)) = true := by simp; omega
            clear V O hLV hpos
            go_wp2_with fail
            refine (toss c 12 sv l s4 _ C.out (by omega)).mono ?_
            rintro e w5 ⟨b5, s5, rfl, C1, g1⟩
            replace O2 := hid (O2.out.grown g1 (fun e => by have e2 := Option.some.inj e; omega))
            replace K := hid (K.out.grown g1 (fun e => by have e2 := Option.some.inj e; omega))
            replace G := hid (IntRow.grown_trans G.out g1)
            replace hat := hid (at_grown hat.out g1 (by simp; omega))
            replace C := hid C1
            have hz5 := g1.size
            clear C1 g1
            go_upto_if 32 with fail
            go_cut [] (fun wx => ∃ (ys : List Int) (s' : St), Hid (ys.length = k) ∧ One wx wq.heap.size (.slice (some ⟨g, 0, none⟩) k cap) ∧ At wx g 3 cap ys ∧ Cu wx c sv l s' ∧ One wx w.heap.size (.slice none 0 0) ∧ w.grownBy wx (some c) ∧ wr.heap.size ≤ wx.heap.size)
            case first =>
              cases b5 with
              | true =>
                go_wp2_with fail
                go_meet
                exact ⟨xs, s5, hxn, O2.out, hat.out, C.out, K.out, G.out, hz5⟩
              | false =>
                have HC := hid C.out.drew
                have HO := hid O2.out.drew
                have HK := hid K.out.drew
                have HA := hid hat.out.drew
                obtain ⟨c1, f1, z1⟩ := O2.out
                have t1 : (0 : Int) ≤ (k : Int) - 1 := by omega
                have t2 : ((k : Int) - 1).toNat = k - 1 := by omega
                have t3 : (k : Int) - 1 < (k : Int) := by omega
                have t4 : (k : Int) ≤ 61 := by omega
                have t7 : (1 : Int) ≤ (k : Int) := by omega
                have t5 : IntKind.i64.wrap ((k : Int) - 1) = (k : Int) - 1 := IntWalk.i64_in _ (by omega)
                go_wp2
                go_region_law (first
                  | (go_simp; go_at_call 69; go_must (refine (below_pos c 9 sv l s5 _ HC.out (by omega) (by omega)).mono ?_); rintro e w6 ⟨x, s6, rfl, hx10, C1, g1⟩; have HC3 := hid C1; have HG3 := hid g1; have HA3 := hid (at_grown HA.out g1 (by simp; omega)); have HO3 := hid (HO.out.grown g1 (fun e => by have e2 := Option.some.inj e; omega)); have HK3 := hid (HK.out.grown g1 (fun e => by have e2 := Option.some.inj e; omega)); obtain ⟨c3, f3, z3⟩ := HO3.out; have q1 := HA3.out.cell (k - 1) (by rw [hxn.out]; omega); have q2 := HA3.out.free (k - 1); have t6 : IntKind.i64.wrap (1 + (x : Int)) = 1 + (x : Int) := IntWalk.i64_in _ (by omega); clear C1 g1))
                all_goals
                  have e1 := hid (HO3.out.far (p := ⟨g, k - 1, none⟩) (by simp only; omega) (.int .i64 (1 + (x : Int))))
                  have e2 := hid (HA3.out.set (k - 1) (1 + (x : Int)))
                  have e3 := hid (cu_set (i := k - 1) HC3.out (show c < g by omega) (.int .i64 (1 + (x : Int))))
                  have e4 := hid (HK3.out.far (p := ⟨g, k - 1, none⟩) (by simp only; omega) (.int .i64 (1 + (x : Int))))
                  have e5 := hid (grown_far (b := g) (i := k - 1) (grown_dr G.out HG3.out) (by omega) (.int .i64 (1 + (x : Int))))
                  have e6 : w5.heap.size ≤ w6.heap.size := HG3.out.size
                  clear HO3 HA3 HC3 HK3 HG3 HC HO HK HA
                  go_wp2_with fail
                  go_meet
                  exact ⟨xs.set (k - 1) (1 + (x : Int)), s6, hid (by rw [List.length_set]; exact hxn.out), e1.out, e2.out, e3.out, e4.out, e5.out, by simp; omega⟩
            case rest =>
              clear O2 K G hat C hxn
              obtain ⟨ys, s6, hyn, O3, hat3, C3, K3, G3, hz6⟩ := hcut
              obtain ⟨wr2, rfl⟩ : ∃ wo : World, wo = wc := ⟨_, rfl⟩
              replace O3 := hid O3
              replace hat3 := hid hat3
              replace C3 := hid C3
              replace K3 := hid K3
              replace G3 := hid G3
              go_wp2_with fail
              refine (toss c 18 sv l s6 _ C3.out (by omega)).mono ?_
              rintro e w7 ⟨b7, s7, rfl, C1, g1⟩
              replace O3 := hid (O3.out.grown g1 (fun e => by have e2 := Option.some.inj e; omega))
              replace K3 := hid (K3.out.grown g1 (fun e => by have e2 := Option.some.inj e; omega))
              replace G3 := hid (IntRow.grown_trans G3.out g1)
              replace hat3 := hid (at_grown hat3.out g1 (by simp; omega))
              replace C3 := hid C1
              have hz7 := g1.size
              clear C1 g1
              go_upto_if 46 with fail
              go_cut [] (fun wx => ∃ (ys : List Int) (s' : St), Hid (ys.length = k) ∧ One wx wq.heap.size (.slice (some ⟨g, 0, none⟩) k cap) ∧ At wx g 3 cap ys ∧ Cu wx c sv l s' ∧ One wx w.heap.size (.slice none 0 0) ∧ w.grownBy wx (some c))
              case first =>
                cases b7 with
                | false =>
                  go_wp2_with fail
                  go_meet
                  exact ⟨ys, s7, hyn, O3.out, hat3.out, C3.out, K3.out, G3.out⟩
                | true =>
                  have HC := hid C3.out.drew
                  have HO := hid O3.out.drew
                  have HK := hid K3.out.drew
                  have HA := hid hat3.out.drew
                  obtain ⟨c1, f1, z1⟩ := O3.out
                  have t7 : (0 : Int) < (k : Int) := by omega
                  have t8 : 0 < k := by omega
                  go_wp2
                  go_region_law (first
                    | (go_simp; go_at_call 60; go_must (refine (pick_two c sv l s7 w7 HC.out _ rfl).mono ?_); rintro e w8 ⟨x, s8, rfl, C1, g1⟩; have HC3 := hid C1; have HG3 := hid g1; have HA3 := hid (at_grown (HA.out.alloc _) g1 (by simp; omega)); have HO3 := hid ((HO.out.alloc _).grown g1 (fun e => by have e2 := Option.some.inj e; omega)); have HK3 := hid ((HK.out.alloc _).grown g1 (fun e => by have e2 := Option.some.inj e; omega)); obtain ⟨c3, f3, z3⟩ := HO3.out; have q1 := HA3.out.cell 0 (by rw [hyn.out]; omega); have q2 := HA3.out.free 0; clear C1 g1))
                  all_goals
                    have e1 := hid (HO3.out.far (p := ⟨g, 0, none⟩) (by simp only; omega) (.int .i64 x))
                    have e2 := hid (HA3.out.set 0 x)
                    have e3 := hid (cu_set (i := 0) HC3.out (show c < g by omega) (.int .i64 x))
                    have e4 := hid (HK3.out.far (p := ⟨g, 0, none⟩) (by simp only; omega) (.int .i64 x))
                    have e5 := hid (grown_far (b := g) (i := 0) (IntRow.grown_trans (IntRow.grown_trans (show w.grownBy w7.drew (some c) from ⟨G3.out.os, G3.out.tape, G3.out.output, G3.out.size, G3.out.block⟩) (World.grownBy_alloc _ _ _)) HG3.out) (by omega) (.int .i64 x))
                    clear HO3 HA3 HC3 HK3 HG3 HC HO HK HA
                    go_wp2_with fail
                    go_meet
                    exact ⟨ys.set 0 x, s8, hid (by rw [List.length_set]; exact hyn.out), e1.out, e2.out, e3.out, e4.out, e5.out⟩
              case rest =>
                clear O3 K3 G3 hat3 C3 hyn
                obtain ⟨zs, s9, hzn, O4, hat4, C4, K4, G4⟩ := hcut
                obtain ⟨wr3, rfl⟩ : ∃ wo : World, wo = wc := ⟨_, rfl⟩
                have hr := (K4.set (.slice (some ⟨g, 0, none⟩) k cap)).1
                have hV2 := hid (hat4.far (p := ⟨w.heap.size, 0, none⟩) (by simp only; omega) (.slice (some ⟨g, 0, none⟩) k cap))
                have hC2 := hid (cu_one C4 hcw (.slice (some ⟨g, 0, none⟩) k cap))
                have hG2 := hid (grown_far (b := w.heap.size) (i := 0) G4 (Nat.le_refl _) (.slice (some ⟨g, 0, none⟩) k cap))
                obtain ⟨c1, f1, z1⟩ := O4
                obtain ⟨c2, f2, z2⟩ := K4
                clear hat4 C4 G4
                go_wp2
                refine bodyPost_ret (v := .agg #[.slice (some ⟨g, 0, none⟩) k cap]) (by simp [results, Try.results55, go_sem, hr]) rfl ⟨zs, some ⟨g, 0, none⟩, cap, s9, by rw [hzn.out], by rw [hzn.out]; omega, ?_, hC2.out, hG2.out⟩
                exact hV2.out.own (by omega)
end Go.Proofs.Ytanfakpeongfjaa.DrawBig
