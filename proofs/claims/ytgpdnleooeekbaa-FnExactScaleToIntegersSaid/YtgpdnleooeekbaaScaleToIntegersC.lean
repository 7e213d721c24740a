/- The walk of law FnExactScaleToIntegers, at every argument, out of the contracts of the model's function and the program's. -/
import Derived.Test.YtgpdnleooeekbaaRats
import Derived.Test.YtgpdnleooeekbaaGridLaw2
import Derived.Test.YtgpdnleooeekbaaLawKit
namespace Go.Proofs.Ytgpdnleooeekbaa.ScaleToIntegersC
open Go.RowKit
open Go.Proofs.Ytgpdnleooeekbaa.Num Go.Proofs.Ytgpdnleooeekbaa.IntRow Go.Proofs.Ytgpdnleooeekbaa.IntLaw Go.Proofs.Ytgpdnleooeekbaa.GridMore Go.Proofs.Ytgpdnleooeekbaa.GridLaw Go.Proofs.Ytgpdnleooeekbaa.GridLaw2 Go.Proofs.Ytgpdnleooeekbaa.Rdr Go.Proofs.Ytgpdnleooeekbaa.HasL Go.Proofs.Ytgpdnleooeekbaa.LawKit Go.Proofs.Ytgpdnleooeekbaa.RatLaw Go.Proofs.Ytgpdnleooeekbaa.Rats Go.Proofs.Ytgpdnleooeekbaa.Keep Go.Proofs.Ytgpdnleooeekbaa.Kept
set_option linter.unusedVariables false

/-- Marks into a slice of rationals that may be written: nothing else is turned. -/
theorem mark_rats (g n : Nat) (k0 : Int) (cs : List Value) (w : World) (hn : n ≤ 1048576) (h0 : 0 ≤ k0) (h1 : k0 ≤ 4194304) (h : w.ownsRow g 31 2 (.slice (some ⟨g, 0, none⟩) n n) n cs) :
    Calls Try.prog 29 #[.slice (some ⟨g, 0, none⟩) n n, .int .i64 k0] w fun e w' => e = .returned (.int .i64 (k0 + 2 * (n : Nat))) ∧ w.grownBy w' (some g) := by
  go_enter Try.func29, Try.ntmps29
  go_wp2
  go_loopw [1, 5] (fun q i wr => ∃ (k : Nat) (ds : List Value), k ≤ n ∧ i = .int .i64 k ∧ q = .int .i64 (k0 + 2 * k) ∧ Hid (wr.ownsRow g 31 2 (.slice (some ⟨g, 0, none⟩) n n) n ds) ∧ Hid (w.grownBy wr (some g))) (fun _ i _ => n - (intOf i).toNat)
  case atStart => exact ⟨0, cs, Nat.zero_le _, rfl, by go_num, hid h, hid (World.grownBy.refl _ _)⟩
  case round =>
    obtain ⟨k, ds, hk, rfl, rfl, ho, hgr⟩ := hrel
    by_cases hlt : k < n
    · have hlt' : (k : Int) < (n : Int) := by omega
      have h0' : (0 : Int) ≤ (k : Int) := by omega
      obtain ⟨u0, e0⟩ := ownk_cell ho.out k 0 hlt (by omega)
      rw [Nat.add_zero] at e0
      obtain ⟨u1, e1⟩ := ownk_cell ho.out k 1 hlt (by omega)
      have f0 := World.ownsRow.frozenAt ho.out (k * 2)
      have f1 := World.ownsRow.frozenAt ho.out (k * 2 + 1)
      have O2 := World.ownsRow.stored ho.out (k * 2) (.int .i64 (k0 + 2 * k))
      have O3 := World.ownsRow.stored O2.1 (k * 2 + 1) (.int .i64 (k0 + 2 * k + 1))
      have HO := hid O3.1
      have HG := hid (grown_trans (grown_trans hgr.out O2.2) O3.2)
      clear O2 O3 ho hgr h
      go_wp2
      go_roundw
      case rel => exact ⟨k + 1, _, by omega, by go_num, by go_num, HO, HG⟩
      case measure => simp [intOf]; omega
    · have e : k = n := by omega
      subst e
      go_wp2
      go_ret
      exact ⟨rfl, hgr.out⟩

set_option maxRecDepth 100000 in
set_option maxHeartbeats 4000000 in
theorem core (a : Option Addr) (cap : Nat) (x : List RatD) (zs : List Int) (D : Int) (w : World) (ht : x.length ≤ 1048576) (hz : zs.length ≤ 1048576) (r : Els 2 rRat w 0 w.heap.size a x)
    (S : RowKit.Hid (∀ (W : World) (b : Option Addr) (bap : Nat), Els 2 rRat W 0 W.heap.size b x → Calls Try.prog 12 #[.slice b x.length bap] W fun e w' => ∃ a cap, e = .returned (.tuple #[.slice a zs.length cap, .int .i64 D]) ∧ Own w' W.heap.size 3 (.slice a zs.length cap) zs ∧ Below W.heap.size W w'))
    (I : RowKit.Hid (∀ (W : World) (b : Option Addr) (bap : Nat), Els 2 rRat W 0 W.heap.size b x → Calls Try.prog 11 #[.slice b x.length bap] W fun e w' => ∃ a cap, e = .returned (.tuple #[.slice a zs.length cap, .int .i64 D]) ∧ Own w' W.heap.size 3 (.slice a zs.length cap) zs ∧ Below W.heap.size W w')) :
    Calls Try.prog 7 #[.slice a x.length cap] w fun e w' => e = .returned (.bool true) ∧ Below w.heap.size w w' := by
  have hneD : (D != D) = false := by simp
  have t_sz : ¬ ((1048576 - (x.length : Nat) : Int) < 0) := by omega
  have B := hid (Below.refl w.heap.size w)
  have A := hid (fun W (h : Below w.heap.size w W) => (r.keep good_rat (sm_below h (Nat.le_refl _))).up good_rat (Nat.le_refl _) h.size)
  go_enter Try.func7, Try.ntmps7
  go_wp2_with fail
  refine (sz_rats _ _ x.length (1048576) (1048576 - (x.length : Nat)) _ (by omega) (by omega) (by omega) (hid (.inr ⟨by omega, by omega⟩))).mono ?_
  rintro e w' ⟨rfl, rfl⟩
  go_wp2_with fail
  refine (to_rats _ _ x 0 _ _ ht (A.out _ B.out) (Nat.le_refl _)).mono ?_
  rintro e w1 ⟨rfl, hd, hrow, hb, hlt⟩
  have s1 := hb.size
  replace B := hid (B.out.trans (hb.mono B.out.size))
  have Es := hid (hd.up good_rat (Nat.zero_le _) (Nat.succ_le_of_lt hlt))
  clear hd hrow hlt hb
  go_wp2_with fail
  refine (S.out _ _ _ Es.out).mono ?_
  rintro e w2 ⟨aV, capV, rfl, hown, hb⟩
  have s2 := hb.size
  replace B := hid (B.out.trans (hb.mono B.out.size))
  have V := hid hown
  have UV := hid (fun k hk => (hown.lt k hk).2)
  have LV := hid (fun k hk => (hown.lt k hk).1)
  clear hown hb
  clear Es
  go_wp2_with fail
  refine (to_rats _ _ x 0 _ _ ht (A.out _ B.out) (Nat.le_refl _)).mono ?_
  rintro e w3 ⟨rfl, hd, hrow, hb, hlt⟩
  have s3 := hb.size
  replace V := hid (V.out.below' hb)
  replace B := hid (B.out.trans (hb.mono B.out.size))
  have EX := hid (hd.up good_rat (Nat.zero_le _) (Nat.succ_le_of_lt hlt))
  have X := hid hd
  have XR := hid hrow
  have sx : w2.heap.size < w3.heap.size := hlt
  clear hd hrow hlt hb
  go_wp2_with fail
  refine (I.out _ _ _ EX.out).mono ?_
  rintro e w4 ⟨aG, capG, rfl, hown, hb⟩
  have s4 := hb.size
  replace V := hid (V.out.below' hb)
  replace X := hid (X.out.keep good_rat (sm_below hb (by omega)))
  replace XR := hid (XR.out.imp fun cs h => ownk_below h hb (fun q hq => by simp [Value.ownBlock] at hq; omega))
  replace B := hid (B.out.trans (hb.mono B.out.size))
  have G := hid hown
  have UG := hid (fun k hk => (hown.lt k hk).2)
  have LG := hid (fun k hk => (hown.lt k hk).1)
  clear hown hb
  go_wp2_with fail
  refine (eq_ints _ _ _ _ zs _ _ _ hz (own_rd G.out) (own_rd V.out) (Nat.le_refl _) (Nat.le_refl _)).mono ?_
  rintro e w5 ⟨rfl, hb⟩
  have s5 := hb.size
  replace V := hid (V.out.below' hb)
  replace X := hid (X.out.keep good_rat (sm_below hb (by omega)))
  replace XR := hid (XR.out.imp fun cs h => ownk_below h hb (fun q hq => by simp [Value.ownBlock] at hq; omega))
  replace G := hid (G.out.below' hb)
  replace B := hid (B.out.trans (hb.mono B.out.size))
  clear hb
  go_wp2_with fail
  refine (to_rats _ _ x 0 _ _ ht (A.out _ B.out) (Nat.le_refl _)).mono ?_
  rintro e w6 ⟨rfl, hd, hrow, hb, hlt⟩
  have s6 := hb.size
  replace V := hid (V.out.below' hb)
  replace X := hid (X.out.keep good_rat (sm_below hb (by omega)))
  replace XR := hid (XR.out.imp fun cs h => ownk_below h hb (fun q hq => by simp [Value.ownBlock] at hq; omega))
  replace G := hid (G.out.below' hb)
  replace B := hid (B.out.trans (hb.mono B.out.size))
  have Ee := hid (hd.up good_rat (Nat.zero_le _) (Nat.succ_le_of_lt hlt))
  clear hd hrow hlt hb
  go_wp2_with fail
  refine (eq_rats _ _ _ _ x _ _ 0 _ _ ht X.out Ee.out (by omega) (Nat.le_refl _)).mono ?_
  rintro e w7 ⟨rfl, hb⟩
  have s7 := hb.size
  replace V := hid (V.out.below' hb)
  replace X := hid (X.out.keep good_rat (sm_below hb (by omega)))
  replace XR := hid (XR.out.imp fun cs h => ownk_below h hb (fun q hq => by simp [Value.ownBlock] at hq; omega))
  replace G := hid (G.out.below' hb)
  replace B := hid (B.out.trans (hb.mono B.out.size))
  clear hb Ee
  obtain ⟨csX, hcsX⟩ := XR.out
  go_wp2_with fail
  refine (mark_rats _ _ 1 csX _ ht (by omega) (by omega) hcsX).mono ?_
  rintro e w8 ⟨rfl, hgr⟩
  have ht0 : Turn w2.heap.size (w2.heap.size + 1) w7 w8 := Turn.of_grown hgr (fun k hk => by have := Option.some.inj hk; omega)
  clear hgr hcsX XR X EX
  have s8 := ht0.size
  replace V := hid (own_turned V.out ht0 (.inr (fun k hk => Nat.lt_of_lt_of_le (UV.out k hk) (by omega))))
  replace G := hid (own_turned G.out ht0 (.inl (by omega)))
  replace B := hid (B.out.trans ((ht0.below (by omega)).mono (by omega)))
  clear ht0
  have t_k : ¬ ((1 : Int) + 2 * (x.length : Nat) < 0) := by omega
  go_wp2_with fail
  refine (eq_ints _ _ _ _ zs _ _ _ hz (own_rd G.out) (own_rd V.out) (Nat.le_refl _) (Nat.le_refl _)).mono ?_
  rintro e w9 ⟨rfl, hb⟩
  have s9 := hb.size
  replace V := hid (V.out.below' hb)
  replace G := hid (G.out.below' hb)
  replace B := hid (B.out.trans (hb.mono B.out.size))
  clear hb
  have hml := marks_length 1 zs.length
  have hneg : ¬ ((1 : Int) + (zs.length : Int) < 0) := by omega
  have hsame : (((1 : Int) + (zs.length : Int)) != ((1 : Int) + (zs.length : Int))) = false := by simp
  go_wp2_with fail
  refine (mark_own _ _ 1 zs _ hz (by omega) (by omega) G.out).mono ?_
  rintro e w10 ⟨rfl, hown, hgr⟩
  have ht0 : Turn w3.heap.size w4.heap.size w9 w10 := Turn.of_grown hgr (fun k hk => ⟨LG.out k hk, UG.out k hk⟩)
  have s10 := ht0.size
  replace V := hid (own_turned V.out ht0 (.inr (fun k hk => Nat.lt_of_lt_of_le (UV.out k hk) (by omega))))
  replace B := hid (B.out.trans ((ht0.below (by omega)).mono (by omega)))
  replace G := hid hown
  clear ht0 hgr hown
  go_wp2_with fail
  refine (held_ints _ _ 1 zs.length _ _ hz (by omega) (by omega) (own_rd' G.out hml)).mono ?_
  rintro e w' ⟨rfl, rfl⟩
  go_wp2_with fail
  refine (to_rats _ _ x 0 _ _ ht (A.out _ B.out) (Nat.le_refl _)).mono ?_
  rintro e w11 ⟨rfl, hd, hrow, hb, hlt⟩
  have s11 := hb.size
  replace V := hid (V.out.below' hb)
  replace G := hid (G.out.below' hb)
  replace B := hid (B.out.trans (hb.mono B.out.size))
  have Eh := hid (hd.up good_rat (Nat.zero_le _) (Nat.succ_le_of_lt hlt))
  clear hd hrow hlt hb
  go_wp2_with fail
  refine (I.out _ _ _ Eh.out).mono ?_
  rintro e w12 ⟨aH, capH, rfl, hown, hb⟩
  have s12 := hb.size
  replace V := hid (V.out.below' hb)
  replace G := hid (G.out.below' hb)
  replace B := hid (B.out.trans (hb.mono B.out.size))
  have H := hid hown
  have UH := hid (fun k hk => (hown.lt k hk).2)
  have LH := hid (fun k hk => (hown.lt k hk).1)
  clear hown hb
  go_wp2_with fail
  refine (eq_ints _ _ _ _ zs _ _ _ hz (own_rd H.out) (own_rd V.out) (Nat.le_refl _) (Nat.le_refl _)).mono ?_
  rintro e w13 ⟨rfl, hb⟩
  have s13 := hb.size
  replace V := hid (V.out.below' hb)
  replace G := hid (G.out.below' hb)
  replace H := hid (H.out.below' hb)
  replace B := hid (B.out.trans (hb.mono B.out.size))
  clear hb
  go_wp2_with fail
  refine (held_ints _ _ 1 zs.length _ _ hz (by omega) (by omega) (own_rd' G.out hml)).mono ?_
  rintro e w' ⟨rfl, rfl⟩
  go_wp2_with fail
  go_ret
  exact ⟨rfl, B.out⟩

theorem walk (a : Option Addr) (cap : Nat) (x : List RatD) (hn : x.length ≤ 9223372036854775807) (w : World) (r : Els 2 rRat w 0 w.heap.size a x) (SI : x.length ≤ 1048576 → ∃ zs D, zs.length ≤ 1048576 ∧ (∀ (W : World) (b : Option Addr) (bap : Nat), Els 2 rRat W 0 W.heap.size b x → Calls Try.prog 12 #[.slice b x.length bap] W fun e w' => ∃ a cap, e = .returned (.tuple #[.slice a zs.length cap, .int .i64 D]) ∧ Own w' W.heap.size 3 (.slice a zs.length cap) zs ∧ Below W.heap.size W w') ∧ (∀ (W : World) (b : Option Addr) (bap : Nat), Els 2 rRat W 0 W.heap.size b x → Calls Try.prog 11 #[.slice b x.length bap] W fun e w' => ∃ a cap, e = .returned (.tuple #[.slice a zs.length cap, .int .i64 D]) ∧ Own w' W.heap.size 3 (.slice a zs.length cap) zs ∧ Below W.heap.size W w')) :
    Calls Try.prog 7 #[.slice a x.length cap] w fun e w' => e = .returned (.bool true) ∧ Below w.heap.size w w' := by
  by_cases ht : 1048576 < x.length
  · clear SI
    go_enter Try.func7, Try.ntmps7
    go_wp2_with fail
    refine (sz_rats _ _ x.length (1048576) (-1) _ (by omega) (by omega) (by omega) (hid (.inl ⟨by omega, rfl⟩))).mono ?_
    rintro e w' ⟨rfl, rfl⟩
    go_wp2
    go_ret
    exact ⟨rfl, Below.refl _ _⟩
  · obtain ⟨zs, D, hz, S, I⟩ := SI (by omega)
    exact core a cap x zs D w (by omega) hz r (hid S) (hid I)

end Go.Proofs.Ytgpdnleooeekbaa.ScaleToIntegersC
