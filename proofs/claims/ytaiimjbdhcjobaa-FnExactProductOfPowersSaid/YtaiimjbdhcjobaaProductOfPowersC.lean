/- The walk of law FnExactProductOfPowers, at every argument, out of the contracts of the model's function and the program's. -/
import Derived.Test.YtaiimjbdhcjobaaIntLaw
import Derived.Test.YtaiimjbdhcjobaaGridMore
namespace Go.Proofs.Ytaiimjbdhcjobaa.ProductOfPowersC
open Go.RowKit
open Go.Proofs.Ytaiimjbdhcjobaa.Num Go.Proofs.Ytaiimjbdhcjobaa.IntRow Go.Proofs.Ytaiimjbdhcjobaa.IntLaw
set_option linter.unusedVariables false

/-- A copy of a row: a row of the call's own. -/
theorem to_ints' (a : Option Addr) (cap B : Nat) (xs : List Int) (w : World) (hn : xs.length ≤ 1048576) (h : Rd w B a xs) (hB : B ≤ w.heap.size) :
    Calls Try.prog 59 #[.slice a xs.length cap] w fun e w' => ∃ g, e = .returned (.slice (some ⟨g, 0, none⟩) xs.length xs.length) ∧ w.heap.size ≤ g ∧ g < w'.heap.size ∧ Own w' g 3 (.slice (some ⟨g, 0, none⟩) xs.length xs.length) xs ∧ Below w.heap.size w w' := by
  refine (to_ints a cap B xs w hn h hB).mono ?_
  rintro e w' ⟨rfl, hat, hb⟩
  exact ⟨_, rfl, Nat.le_refl _, hat.lt, hat, hb⟩

set_option maxRecDepth 100000 in
set_option maxHeartbeats 4000000 in
theorem core (a0 a1 : Option Addr) (cap0 cap1 : Nat) (x0 x1 : List Int) (zs : List Int) (ok : Bool) (w : World) (hx0 : x0.length ≤ 1048576) (hx1 : x1.length ≤ 1048576) (hz : zs.length ≤ 1048576) (r0 : Rd w w.heap.size a0 x0) (r1 : Rd w w.heap.size a1 x1)
    (S : RowKit.Hid (∀ (W : World) (b0 b1 : Option Addr) (bap0 bap1 : Nat), Rd W W.heap.size b0 x0 → Rd W W.heap.size b1 x1 → Calls Try.prog 37 #[.slice b0 x0.length bap0, .slice b1 x1.length bap1] W fun e w' => ∃ a cap, e = .returned (.tuple #[.agg #[.slice a zs.length cap], .bool ok]) ∧ Own w' W.heap.size 3 (.slice a zs.length cap) zs ∧ Below W.heap.size W w'))
    (I : RowKit.Hid (∀ (W : World) (b0 b1 : Option Addr) (bap0 bap1 : Nat), Rd W W.heap.size b0 x0 → Rd W W.heap.size b1 x1 → Calls Try.prog 36 #[.slice b0 x0.length bap0, .slice b1 x1.length bap1] W fun e w' => ∃ a cap, e = .returned (.tuple #[.agg #[.slice a zs.length cap], .bool ok]) ∧ Own w' W.heap.size 3 (.slice a zs.length cap) zs ∧ Below W.heap.size W w')) :
    Calls Try.prog 10 #[.slice a0 x0.length cap0, .slice a1 x1.length cap1] w fun e w' => e = .returned (.bool true) ∧ Below w.heap.size w w' := by
  have t0 : ¬ (1048576 : Int) < (x0.length : Int) := by omega
  have t1 : ¬ (1048576 : Int) < (x1.length : Int) := by omega
  have hneO : (ok != ok) = false := by simp
  have hneg : ¬ (1 + (zs.length : Int) < 0) := by omega
  have hne : ((1 + (zs.length : Int)) != (1 + (zs.length : Int))) = false := by simp
  have hneX : ¬ (1 + (x0.length : Int) + (x1.length : Int) < 0) := by omega
  have B := hid (Below.refl w.heap.size w)
  replace r0 := hid r0
  replace r1 := hid r1
  go_enter Try.func10, Try.ntmps10
  go_wp2_with fail
  refine (to_ints' a0 cap0 w.heap.size x0 _ hx0 (r0.out.below B.out) B.out.size).mono ?_
  rintro e w1 ⟨gs0, rfl, hg0, hg1, hX, hb⟩
  have s1 := hb.size
  (try simp only [World.size_alloc] at s1)
  replace B := hid (B.out.trans (hb.mono B.out.size))
  clear hb
  have ps0 := hg0
  (try simp only [World.size_alloc] at ps0)
  have qs0 := hg1
  clear hg0 hg1
  have s0 := hid hX
  clear hX
  go_wp2_with fail
  refine (to_ints' a1 cap1 w.heap.size x1 _ hx1 (r1.out.below B.out) B.out.size).mono ?_
  rintro e w2 ⟨gs1, rfl, hg0, hg1, hX, hb⟩
  have s2 := hb.size
  (try simp only [World.size_alloc] at s2)
  replace s0 := hid (s0.out.below' hb)
  replace B := hid (B.out.trans (hb.mono B.out.size))
  clear hb
  have ps1 := hg0
  (try simp only [World.size_alloc] at ps1)
  have qs1 := hg1
  clear hg0 hg1
  have s1 := hid hX
  clear hX
  go_wp2_with fail
  refine (S.out _ _ _ _ _ (own_rd s0.out) (own_rd s1.out)).mono ?_
  rintro e w3 ⟨aV, capV, rfl, hX, hb⟩
  have s3 := hb.size
  (try simp only [World.size_alloc] at s3)
  replace s0 := hid (s0.out.below' hb)
  replace s1 := hid (s1.out.below' hb)
  replace B := hid (B.out.trans (hb.mono B.out.size))
  clear hb
  have LV := hid hX.lt
  have V := hid hX
  clear hX
  clear s0
  clear s1
  go_wp2_with fail
  have OW := hid (one_new w3 (.slice aV zs.length capV) 53)
  replace V := hid (V.out.alloc (.cells #[.slice aV zs.length capV] 53))
  replace B := hid (B.out.alloc B.out.size (.cells #[.slice aV zs.length capV] 53))
  refine (to_ints' a0 cap0 w.heap.size x0 _ hx0 (r0.out.below B.out) B.out.size).mono ?_
  rintro e w4 ⟨gX0, rfl, hg0, hg1, hX, hb⟩
  have s4 := hb.size
  (try simp only [World.size_alloc] at s4)
  replace V := hid (V.out.below' hb)
  replace OW := hid (OW.out.below' hb)
  replace B := hid (B.out.trans (hb.mono B.out.size))
  clear hb
  have pX0 := hg0
  (try simp only [World.size_alloc] at pX0)
  have qX0 := hg1
  clear hg0 hg1
  have X0 := hid hX
  clear hX
  obtain ⟨c_1, f_1, z_1⟩ := OW.out
  go_wp2_with fail
  clear c_1 f_1 z_1
  refine (to_ints' a1 cap1 w.heap.size x1 _ hx1 (r1.out.below B.out) B.out.size).mono ?_
  rintro e w5 ⟨gX1, rfl, hg0, hg1, hX, hb⟩
  have s5 := hb.size
  (try simp only [World.size_alloc] at s5)
  replace V := hid (V.out.below' hb)
  replace OW := hid (OW.out.below' hb)
  replace X0 := hid (X0.out.below' hb)
  replace B := hid (B.out.trans (hb.mono B.out.size))
  clear hb
  have pX1 := hg0
  (try simp only [World.size_alloc] at pX1)
  have qX1 := hg1
  clear hg0 hg1
  have X1 := hid hX
  clear hX
  obtain ⟨c_2, f_2, z_2⟩ := OW.out
  go_wp2_with fail
  clear c_2 f_2 z_2
  refine (I.out _ _ _ _ _ (own_rd X0.out) (own_rd X1.out)).mono ?_
  rintro e w6 ⟨aG, capG, rfl, hX, hb⟩
  have s6 := hb.size
  (try simp only [World.size_alloc] at s6)
  replace V := hid (V.out.below' hb)
  replace OW := hid (OW.out.below' hb)
  replace X0 := hid (X0.out.below' hb)
  replace X1 := hid (X1.out.below' hb)
  replace B := hid (B.out.trans (hb.mono B.out.size))
  clear hb
  have LG := hid hX.lt
  have G := hid hX
  clear hX
  obtain ⟨c_3, f_3, z_3⟩ := OW.out
  go_wp2_with fail
  clear c_3 f_3 z_3
  have OG := hid (one_new w6 (.slice aG zs.length capG) 53)
  replace V := hid (V.out.alloc (.cells #[.slice aG zs.length capG] 53))
  replace OW := hid (OW.out.alloc (.cells #[.slice aG zs.length capG] 53))
  replace X0 := hid (X0.out.alloc (.cells #[.slice aG zs.length capG] 53))
  replace X1 := hid (X1.out.alloc (.cells #[.slice aG zs.length capG] 53))
  replace G := hid (G.out.alloc (.cells #[.slice aG zs.length capG] 53))
  replace B := hid (B.out.alloc B.out.size (.cells #[.slice aG zs.length capG] 53))
  refine (eq_big _ _ _ _ zs _ _ _ hz (own_rd G.out) (own_rd V.out) (Nat.le_refl _) (Nat.le_refl _)).mono ?_
  rintro e w7 ⟨rfl, hb⟩
  have s7 := hb.size
  (try simp only [World.size_alloc] at s7)
  replace V := hid (V.out.below' hb)
  replace OW := hid (OW.out.below' hb)
  replace X0 := hid (X0.out.below' hb)
  replace X1 := hid (X1.out.below' hb)
  replace G := hid (G.out.below' hb)
  replace OG := hid (OG.out.below' hb)
  replace B := hid (B.out.trans (hb.mono B.out.size))
  clear hb
  obtain ⟨c_4, f_4, z_4⟩ := OW.out
  obtain ⟨c_5, f_5, z_5⟩ := OG.out
  go_wp2_with fail
  clear c_4 f_4 z_4
  clear c_5 f_5 z_5
  refine (to_ints' a0 cap0 w.heap.size x0 _ hx0 (r0.out.below B.out) B.out.size).mono ?_
  rintro e w8 ⟨gE, rfl, hg0, hg1, hX, hb⟩
  have s8 := hb.size
  (try simp only [World.size_alloc] at s8)
  replace V := hid (V.out.below' hb)
  replace OW := hid (OW.out.below' hb)
  replace X0 := hid (X0.out.below' hb)
  replace X1 := hid (X1.out.below' hb)
  replace G := hid (G.out.below' hb)
  replace OG := hid (OG.out.below' hb)
  replace B := hid (B.out.trans (hb.mono B.out.size))
  clear hb
  have pE := hg0
  (try simp only [World.size_alloc] at pE)
  have qE := hg1
  clear hg0 hg1
  have E := hid hX
  clear hX
  obtain ⟨c_6, f_6, z_6⟩ := OW.out
  obtain ⟨c_7, f_7, z_7⟩ := OG.out
  go_wp2_with fail
  clear c_6 f_6 z_6
  clear c_7 f_7 z_7
  refine (eq_ints _ _ _ _ x0 _ _ _ hx0 (own_rd X0.out) (own_rd E.out) (Nat.le_refl _) (Nat.le_refl _)).mono ?_
  rintro e w9 ⟨rfl, hb⟩
  have s9 := hb.size
  (try simp only [World.size_alloc] at s9)
  replace V := hid (V.out.below' hb)
  replace OW := hid (OW.out.below' hb)
  replace X0 := hid (X0.out.below' hb)
  replace X1 := hid (X1.out.below' hb)
  replace G := hid (G.out.below' hb)
  replace OG := hid (OG.out.below' hb)
  replace E := hid (E.out.below' hb)
  replace B := hid (B.out.trans (hb.mono B.out.size))
  clear hb
  clear E
  obtain ⟨c_8, f_8, z_8⟩ := OW.out
  obtain ⟨c_9, f_9, z_9⟩ := OG.out
  go_wp2_with fail
  clear c_8 f_8 z_8
  clear c_9 f_9 z_9
  refine (to_ints' a1 cap1 w.heap.size x1 _ hx1 (r1.out.below B.out) B.out.size).mono ?_
  rintro e w10 ⟨gE, rfl, hg0, hg1, hX, hb⟩
  have s10 := hb.size
  (try simp only [World.size_alloc] at s10)
  replace V := hid (V.out.below' hb)
  replace OW := hid (OW.out.below' hb)
  replace X0 := hid (X0.out.below' hb)
  replace X1 := hid (X1.out.below' hb)
  replace G := hid (G.out.below' hb)
  replace OG := hid (OG.out.below' hb)
  replace B := hid (B.out.trans (hb.mono B.out.size))
  clear hb
  have pE := hg0
  (try simp only [World.size_alloc] at pE)
  have qE := hg1
  clear hg0 hg1
  have E := hid hX
  clear hX
  obtain ⟨c_10, f_10, z_10⟩ := OW.out
  obtain ⟨c_11, f_11, z_11⟩ := OG.out
  go_wp2_with fail
  clear c_10 f_10 z_10
  clear c_11 f_11 z_11
  refine (eq_ints _ _ _ _ x1 _ _ _ hx1 (own_rd X1.out) (own_rd E.out) (Nat.le_refl _) (Nat.le_refl _)).mono ?_
  rintro e w11 ⟨rfl, hb⟩
  have s11 := hb.size
  (try simp only [World.size_alloc] at s11)
  replace V := hid (V.out.below' hb)
  replace OW := hid (OW.out.below' hb)
  replace X0 := hid (X0.out.below' hb)
  replace X1 := hid (X1.out.below' hb)
  replace G := hid (G.out.below' hb)
  replace OG := hid (OG.out.below' hb)
  replace E := hid (E.out.below' hb)
  replace B := hid (B.out.trans (hb.mono B.out.size))
  clear hb
  clear E
  obtain ⟨c_12, f_12, z_12⟩ := OW.out
  obtain ⟨c_13, f_13, z_13⟩ := OG.out
  go_wp2_with fail
  clear c_12 f_12 z_12
  clear c_13 f_13 z_13
  refine (mark_ints gX0 _ 1 x0 _ hx0 (by omega) (by omega) X0.out).mono ?_
  rintro e w12 ⟨rfl, _, hg⟩
  clear X0
  replace V := hid (V.out.grown hg (fun k hk e => by have he := Option.some.inj e; have h1 := (LV.out k hk).2; (try simp only [World.size_alloc] at h1); omega))
  replace OW := hid (OW.out.grown hg (fun e => by have he := Option.some.inj e; omega))
  replace X1 := hid (X1.out.grown hg (fun k hk e => by have h1 : gX1 = k := Option.some.inj hk; have he : gX0 = k := Option.some.inj e; omega))
  replace G := hid (G.out.grown hg (fun k hk e => by have he := Option.some.inj e; have h1 := (LG.out k hk).1; (try simp only [World.size_alloc] at h1); omega))
  replace OG := hid (OG.out.grown hg (fun e => by have he := Option.some.inj e; omega))
  replace B := hid (B.out.grown hg B.out.size (fun k hk => by have he := Option.some.inj hk; omega))
  clear hg
  obtain ⟨c_14, f_14, z_14⟩ := OW.out
  obtain ⟨c_15, f_15, z_15⟩ := OG.out
  go_wp2_with fail
  clear c_14 f_14 z_14
  clear c_15 f_15 z_15
  refine (mark_ints gX1 _ (1 + (x0.length : Int)) x1 _ hx1 (by omega) (by omega) X1.out).mono ?_
  rintro e w13 ⟨rfl, _, hg⟩
  clear X1
  replace V := hid (V.out.grown hg (fun k hk e => by have he := Option.some.inj e; have h1 := (LV.out k hk).2; (try simp only [World.size_alloc] at h1); omega))
  replace OW := hid (OW.out.grown hg (fun e => by have he := Option.some.inj e; omega))
  replace G := hid (G.out.grown hg (fun k hk e => by have he := Option.some.inj e; have h1 := (LG.out k hk).1; (try simp only [World.size_alloc] at h1); omega))
  replace OG := hid (OG.out.grown hg (fun e => by have he := Option.some.inj e; omega))
  replace B := hid (B.out.grown hg B.out.size (fun k hk => by have he := Option.some.inj hk; omega))
  clear hg
  obtain ⟨c_16, f_16, z_16⟩ := OW.out
  obtain ⟨c_17, f_17, z_17⟩ := OG.out
  go_wp2_with fail
  clear c_16 f_16 z_16
  clear c_17 f_17 z_17
  refine (eq_big _ _ _ _ zs _ _ _ hz (own_rd G.out) (own_rd V.out) (Nat.le_refl _) (Nat.le_refl _)).mono ?_
  rintro e w14 ⟨rfl, hb⟩
  have s14 := hb.size
  (try simp only [World.size_alloc] at s14)
  replace V := hid (V.out.below' hb)
  replace OW := hid (OW.out.below' hb)
  replace G := hid (G.out.below' hb)
  replace OG := hid (OG.out.below' hb)
  replace B := hid (B.out.trans (hb.mono B.out.size))
  clear hb
  obtain ⟨c_18, f_18, z_18⟩ := OW.out
  obtain ⟨c_19, f_19, z_19⟩ := OG.out
  go_wp2_with fail
  clear c_18 f_18 z_18
  clear c_19 f_19 z_19
  refine (mark_big _ _ 1 zs _ hz (by omega) (by omega) G.out).mono ?_
  rintro e w15 ⟨rfl, hX, hg⟩
  replace V := hid (V.out.grown hg (fun k hk e => by have h0 := (LG.out _ e); (try simp only [World.size_alloc] at h0); have h1 := (LV.out k hk).2; omega))
  replace OW := hid (OW.out.grown hg (fun e => by have h0 := (LG.out _ e); (try simp only [World.size_alloc] at h0); omega))
  replace OG := hid (OG.out.grown hg (fun e => by have h0 := (LG.out _ e); (try simp only [World.size_alloc] at h0); omega))
  replace B := hid (B.out.grown hg B.out.size (fun k hk => by have h0 := (LG.out _ hk).1; (try simp only [World.size_alloc] at h0); omega))
  have hs0 := B.out.size
  replace G := hid hX
  clear hX hg hs0
  obtain ⟨c_20, f_20, z_20⟩ := OW.out
  obtain ⟨c_21, f_21, z_21⟩ := OG.out
  go_wp2_with fail
  clear c_20 f_20 z_20
  clear c_21 f_21 z_21
  refine (held_big _ _ 1 zs.length _ _ hz (by omega) (by omega) (own_rd' G.out (marks_length _ _)) (Nat.le_refl _)).mono ?_
  rintro e w16 ⟨rfl, hb⟩
  have s16 := hb.size
  (try simp only [World.size_alloc] at s16)
  replace V := hid (V.out.below' hb)
  replace OW := hid (OW.out.below' hb)
  replace OG := hid (OG.out.below' hb)
  replace G := hid (G.out.below' hb)
  replace B := hid (B.out.trans (hb.mono B.out.size))
  clear hb
  obtain ⟨c_22, f_22, z_22⟩ := OW.out
  obtain ⟨c_23, f_23, z_23⟩ := OG.out
  go_wp2_with fail
  clear c_22 f_22 z_22
  clear c_23 f_23 z_23
  refine (to_ints' a0 cap0 w.heap.size x0 _ hx0 (r0.out.below B.out) B.out.size).mono ?_
  rintro e w17 ⟨gh0, rfl, hg0, hg1, hX, hb⟩
  have s17 := hb.size
  (try simp only [World.size_alloc] at s17)
  replace V := hid (V.out.below' hb)
  replace OW := hid (OW.out.below' hb)
  replace OG := hid (OG.out.below' hb)
  replace G := hid (G.out.below' hb)
  replace B := hid (B.out.trans (hb.mono B.out.size))
  clear hb
  have ph0 := hg0
  (try simp only [World.size_alloc] at ph0)
  have qh0 := hg1
  clear hg0 hg1
  have h0 := hid hX
  clear hX
  obtain ⟨c_24, f_24, z_24⟩ := OW.out
  obtain ⟨c_25, f_25, z_25⟩ := OG.out
  go_wp2_with fail
  clear c_24 f_24 z_24
  clear c_25 f_25 z_25
  refine (to_ints' a1 cap1 w.heap.size x1 _ hx1 (r1.out.below B.out) B.out.size).mono ?_
  rintro e w18 ⟨gh1, rfl, hg0, hg1, hX, hb⟩
  have s18 := hb.size
  (try simp only [World.size_alloc] at s18)
  replace V := hid (V.out.below' hb)
  replace OW := hid (OW.out.below' hb)
  replace OG := hid (OG.out.below' hb)
  replace G := hid (G.out.below' hb)
  replace h0 := hid (h0.out.below' hb)
  replace B := hid (B.out.trans (hb.mono B.out.size))
  clear hb
  have ph1 := hg0
  (try simp only [World.size_alloc] at ph1)
  have qh1 := hg1
  clear hg0 hg1
  have h1 := hid hX
  clear hX
  obtain ⟨c_26, f_26, z_26⟩ := OW.out
  obtain ⟨c_27, f_27, z_27⟩ := OG.out
  go_wp2_with fail
  clear c_26 f_26 z_26
  clear c_27 f_27 z_27
  refine (I.out _ _ _ _ _ (own_rd h0.out) (own_rd h1.out)).mono ?_
  rintro e w19 ⟨aH, capH, rfl, hX, hb⟩
  have s19 := hb.size
  (try simp only [World.size_alloc] at s19)
  replace V := hid (V.out.below' hb)
  replace OW := hid (OW.out.below' hb)
  replace OG := hid (OG.out.below' hb)
  replace G := hid (G.out.below' hb)
  replace h0 := hid (h0.out.below' hb)
  replace h1 := hid (h1.out.below' hb)
  replace B := hid (B.out.trans (hb.mono B.out.size))
  clear hb
  have LH := hid hX.lt
  have H := hid hX
  clear hX
  clear h0
  clear h1
  obtain ⟨c_28, f_28, z_28⟩ := OW.out
  obtain ⟨c_29, f_29, z_29⟩ := OG.out
  go_wp2_with fail
  clear c_28 f_28 z_28
  clear c_29 f_29 z_29
  have OH := hid (one_new w19 (.slice aH zs.length capH) 53)
  replace V := hid (V.out.alloc (.cells #[.slice aH zs.length capH] 53))
  replace OW := hid (OW.out.alloc (.cells #[.slice aH zs.length capH] 53))
  replace OG := hid (OG.out.alloc (.cells #[.slice aH zs.length capH] 53))
  replace G := hid (G.out.alloc (.cells #[.slice aH zs.length capH] 53))
  replace H := hid (H.out.alloc (.cells #[.slice aH zs.length capH] 53))
  replace B := hid (B.out.alloc B.out.size (.cells #[.slice aH zs.length capH] 53))
  refine (eq_big _ _ _ _ zs _ _ _ hz (own_rd H.out) (own_rd V.out) (Nat.le_refl _) (Nat.le_refl _)).mono ?_
  rintro e w20 ⟨rfl, hb⟩
  have s20 := hb.size
  (try simp only [World.size_alloc] at s20)
  replace V := hid (V.out.below' hb)
  replace OW := hid (OW.out.below' hb)
  replace OG := hid (OG.out.below' hb)
  replace G := hid (G.out.below' hb)
  replace H := hid (H.out.below' hb)
  replace OH := hid (OH.out.below' hb)
  replace B := hid (B.out.trans (hb.mono B.out.size))
  clear hb
  obtain ⟨c_30, f_30, z_30⟩ := OW.out
  obtain ⟨c_31, f_31, z_31⟩ := OG.out
  obtain ⟨c_32, f_32, z_32⟩ := OH.out
  go_wp2_with fail
  clear c_30 f_30 z_30
  clear c_31 f_31 z_31
  clear c_32 f_32 z_32
  refine (held_big _ _ 1 zs.length _ _ hz (by omega) (by omega) (own_rd' G.out (marks_length _ _)) (Nat.le_refl _)).mono ?_
  rintro e w21 ⟨rfl, hb⟩
  have s21 := hb.size
  (try simp only [World.size_alloc] at s21)
  replace V := hid (V.out.below' hb)
  replace OW := hid (OW.out.below' hb)
  replace OG := hid (OG.out.below' hb)
  replace G := hid (G.out.below' hb)
  replace H := hid (H.out.below' hb)
  replace OH := hid (OH.out.below' hb)
  replace B := hid (B.out.trans (hb.mono B.out.size))
  clear hb
  obtain ⟨c_33, f_33, z_33⟩ := OW.out
  obtain ⟨c_34, f_34, z_34⟩ := OG.out
  obtain ⟨c_35, f_35, z_35⟩ := OH.out
  go_wp2_with fail
  clear c_33 f_33 z_33
  clear c_34 f_34 z_34
  clear c_35 f_35 z_35
  go_ret
  exact ⟨rfl, B.out⟩

theorem walk (a0 : Option Addr) (cap0 : Nat) (x0 : List Int) (a1 : Option Addr) (cap1 : Nat) (x1 : List Int) (w : World) (r0 : Rd w w.heap.size a0 x0) (r1 : Rd w w.heap.size a1 x1) (SI : x0.length ≤ 1048576 → x1.length ≤ 1048576 → ∃ zs ok, zs.length ≤ 1048576 ∧ (∀ (W : World) (b0 b1 : Option Addr) (bap0 bap1 : Nat), Rd W W.heap.size b0 x0 → Rd W W.heap.size b1 x1 → Calls Try.prog 37 #[.slice b0 x0.length bap0, .slice b1 x1.length bap1] W fun e w' => ∃ a cap, e = .returned (.tuple #[.agg #[.slice a zs.length cap], .bool ok]) ∧ Own w' W.heap.size 3 (.slice a zs.length cap) zs ∧ Below W.heap.size W w') ∧ (∀ (W : World) (b0 b1 : Option Addr) (bap0 bap1 : Nat), Rd W W.heap.size b0 x0 → Rd W W.heap.size b1 x1 → Calls Try.prog 36 #[.slice b0 x0.length bap0, .slice b1 x1.length bap1] W fun e w' => ∃ a cap, e = .returned (.tuple #[.agg #[.slice a zs.length cap], .bool ok]) ∧ Own w' W.heap.size 3 (.slice a zs.length cap) zs ∧ Below W.heap.size W w')) :
    Calls Try.prog 10 #[.slice a0 x0.length cap0, .slice a1 x1.length cap1] w fun e w' => e = .returned (.bool true) ∧ Below w.heap.size w w' := by
  by_cases h0 : 1048576 < x0.length
  · have t0 : (1048576 : Int) < (x0.length : Int) := by omega
    clear SI
    go_enter Try.func10, Try.ntmps10
    go_wp2
    go_ret
    exact ⟨rfl, Below.refl _ _⟩
  · by_cases h1 : 1048576 < x1.length
    · have t0 : ¬ (1048576 : Int) < (x0.length : Int) := by omega
      have t1 : (1048576 : Int) < (x1.length : Int) := by omega
      clear SI
      go_enter Try.func10, Try.ntmps10
      go_wp2
      go_ret
      exact ⟨rfl, Below.refl _ _⟩
    · obtain ⟨zs, ok, hz, S, I⟩ := SI (by omega) (by omega)
      exact core a0 a1 cap0 cap1 x0 x1 zs ok w (by omega) (by omega) hz r0 r1 (hid S) (hid I)

end Go.Proofs.Ytaiimjbdhcjobaa.ProductOfPowersC
