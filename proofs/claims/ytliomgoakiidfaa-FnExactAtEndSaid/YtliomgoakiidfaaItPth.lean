/- The path of an iterator, both sides. -/
import Derived.Test.YtliomgoakiidfaaItQ
import Derived.Test.YtliomgoakiidfaaItT
namespace Go.Proofs.Ytliomgoakiidfaa.ItPth
open Go.RowKit Go.Sort
open Go.Proofs.Ytliomgoakiidfaa.Num Go.Proofs.Ytliomgoakiidfaa.IntRow Go.Proofs.Ytliomgoakiidfaa.Vals Go.Proofs.Ytliomgoakiidfaa.Grid Go.Proofs.Ytliomgoakiidfaa.Asc Go.Proofs.Ytliomgoakiidfaa.IntLaw Go.Proofs.Ytliomgoakiidfaa.GridMore Go.Proofs.Ytliomgoakiidfaa.GridLaw Go.Proofs.Ytliomgoakiidfaa.GridLaw2 Go.Proofs.Ytliomgoakiidfaa.Keep Go.Proofs.Ytliomgoakiidfaa.Kept Go.Proofs.Ytliomgoakiidfaa.Cells Go.Proofs.Ytliomgoakiidfaa.RelKit Go.Proofs.Ytliomgoakiidfaa.HasL Go.Proofs.Ytliomgoakiidfaa.ItLaw Go.Proofs.Ytliomgoakiidfaa.ItP Go.Proofs.Ytliomgoakiidfaa.TriV Go.Proofs.Ytliomgoakiidfaa.ItI Go.Proofs.Ytliomgoakiidfaa.ItV Go.Proofs.Ytliomgoakiidfaa.ItS Go.Proofs.Ytliomgoakiidfaa.ItT Go.Proofs.Ytliomgoakiidfaa.ItQ
set_option linter.unusedVariables false
set_option linter.unusedSimpArgs false

section
variable {P : Program}
/-- 'append(v, z)' as one step of a region that draws its order. -/
theorem step_int {ops : Array Oper} {o : Oper} {a : Act} {K : Act → World → Prop} {Q : Exit → Act → World → Prop} {E : Prop} (hgd : o.guard = none) (s x : Operand) (t : TypeId)
    (ho : o.op = .call { callee := .builtin .append, args := #[s, x], argTypes := #[t, t] })
    (base : Nat) (e : TypeId) (i : TypeInfo) (ht : P.underlying t = some (.slice e)) (hi : P.info? e = some i) (hz : i.zero = some (.int .i64 0))
    (hsize : i.size = 1) (hby : i.bytes = 8) (wr : World) (v : Value) (l : List Int) (z : Int) (hown : Own wr base e v l) (hs : a.eval s = v) (hbase : base ≤ wr.heap.size)
    (hx : a.eval x = .slice (some ⟨wr.heap.size, 0, none⟩) 1 1) (hlen : l.length ≤ 8796093022208)
    (h : ∀ v' w', Own w' base e v' (l ++ [z]) → wr.grownBy w' v.ownBlock → K (a.put o.dst v') w') :
    if Region.wanted o (yielded ops a.tmps) = true then Oper.wp P o a (wr.alloc (.cells #[.int .i64 z] e)) K Q else E := by
  have hw : Region.wanted o (yielded ops a.tmps) = true := by simp [Region.wanted, hgd]
  rw [if_pos hw]
  refine wp_append_own _ s x t ho base e i (.int .i64 0) 1 8 ht hi hz hsize hby rfl (by decide) v l.length (ic l) hs (hown.alloc _) ⟨wr.heap.size, 0, none⟩ 1 1 (ic [z]) hx rfl ?_ ?_ ?_ ?_ ?_ ?_
  · intro j u hj
    match j, hj with
    | 0, hj => simp [ic] at hj; subst hj; simp [Addr.add]
    | j + 1, hj => simp [ic] at hj
  · intro u hu; simp [ic] at hu; subst hu; rfl
  · unfold maxLen; omega
  · omega
  · simp; omega
  · intro v' w' hown' hgrow _
    refine h v' w' ?_ ?_
    · unfold Own
      rw [ic_append]
      simpa using hown'
    · exact ⟨hgrow.os, hgrow.tape, hgrow.output, by have := hgrow.size; simp at this; omega, fun k hk hne => (hgrow.block k (by simp; omega) hne).trans (Below.heap_alloc _ _ _ hk)⟩
end

set_option maxRecDepth 100000 in
set_option maxHeartbeats 4000000 in
theorem impl_path (n : Int) (a l h p : Option Addr) (cap capl caph capp : Nat) (xss : List (List Int)) (L H P : List Int) (B : Nat) (w : World) (hs : szI xss L H P ≤ 1048576) (r : ItRd w B a l h p cap capl caph capp xss L H P) (hB : B ≤ w.heap.size) :
    Calls Try.prog 30 #[.agg #[.int .i64 n, .slice a xss.length cap, .slice l L.length capl, .slice h H.length caph, .slice p P.length capp]] w fun e w' => ∃ a c, e = .returned (.slice a (pathN n xss L H P).length c) ∧ Own w' w.heap.size eI (.slice a (pathN n xss L H P).length c) (pathN n xss L H P) ∧ Below w.heap.size w w' := by
  obtain ⟨n1, nl, nx, n3, n4, n5, _, _⟩ := szI_parts hs
  obtain ⟨zs, hzs⟩ : ∃ z, pathN n xss L H P = z := ⟨_, rfl⟩
  rw [hzs]
  have HZ := hid hzs
  have B1 := hid ((Below.refl w.heap.size w).alloc (Nat.le_refl _) (.cells #[.int .i64 n, .slice a xss.length cap, .slice l L.length capl, .slice h H.length caph, .slice p P.length capp] 29))
  have K0 := hid (hasl_new w [.int .i64 n, .slice a xss.length cap, .slice l L.length capl, .slice h H.length caph, .slice p P.length capp] 29)
  have R := hid r
  have V := hid (impl_vit n a l h p cap capl caph capp xss L H P B _ hs (R.out.below (B1.out.mono hB)) (Nat.le_trans hB B1.out.size))
  have HS := hid hs
  obtain ⟨v, hv⟩ : ∃ v, vit n xss L H P = v := ⟨_, rfl⟩
  rw [hv] at V
  have HV := hid hv
  obtain ⟨c0, c1, c2, c3, c4, _, _, _, _, _, z0⟩ := five K0.out
  obtain ⟨i0, hi0, hz0, hz1, hz2⟩ := info_parts IntLaw.info
  clear r hs nx hzs hv
  go_enter Try.func30, Try.ntmps30
  go_wp2_with fail
  with_reducible refine V.out.mono ?_
  rintro e w1 ⟨rfl, hb⟩
  have hsz1 : w.heap.size + 1 ≤ w1.heap.size := by have := hb.size; simpa using this
  have BB := hid (B1.out.trans (hb.mono B1.out.size))
  replace K0 := hid (K0.out.below hb)
  clear c0 c1 c2 c3 c4 z0 hb V B1
  obtain ⟨c0, c1, c2, c3, c4, _, _, _, _, _, z0⟩ := five K0.out
  cases v with
  | false =>
    obtain rfl : [] = zs := (path_no HV.out).symm.trans HZ.out
    go_wp2
    go_ret
    exact ⟨none, 0, rfl, Own.nil _ _ _, BB.out⟩
  | true =>
    have hzz := hid ((path_yes HV.out).symm.trans HZ.out)
    have VL := hid (vit_lv HV.out)
    have hH := VL.out.2.1
    have HHL := hid hH
    clear hH
    go_wp2
    clear c0 c1 c2 c3 c4 z0
    go_loopw [3, 4, 5, 12] (fun s3 _ _ i wr => ∃ k : Nat, k ≤ P.length ∧ i = .int .i64 k ∧ Hid (Own wr (w.heap.size + 1) eI s3 (pth xss H P k)) ∧ Hid (HasL wr w.heap.size [.int .i64 n, .slice a xss.length cap, .slice l L.length capl, .slice h H.length caph, .slice p P.length capp]) ∧ Hid (Below w.heap.size w wr) ∧ w.heap.size + 1 ≤ wr.heap.size) (fun _ _ _ i _ => P.length - (intOf i).toNat)
    case atStart => exact ⟨0, Nat.zero_le _, rfl, hid (Own.nil _ _ _), K0, BB, hsz1⟩
    case round =>
      obtain ⟨k, hk, rfl, hown, k0, hb, hsz⟩ := hrel
      clear K0 BB hsz1
      obtain ⟨c0, c1, c2, c3, c4, _, _, _, _, _, z0⟩ := five k0.out
      have hpl := pth_len xss H P k
      by_cases hlt : k < P.length
      · obtain ⟨m, hm, htr, hpm, hlv, hlev⟩ := VL.out.2.2
        obtain ⟨lo, pp, e, hp, he, h1, h2, h3, _, _, hr⟩ := hlev k hlt
        have hkH : k < H.length := by have := HHL.out; omega
        have HR := R.out.below (hb.out.mono hB)
        obtain ⟨bp, offp, rfl, hbp, hcp⟩ := HR.p (by omega)
        obtain ⟨bh, offh, rfl, hbh, hch⟩ := HR.h (by omega)
        have gp := hcp k hlt
        have gh := hch k hkH
        rw [← at0_get hlt, hp] at gp
        rw [← at0_get hkH, he] at gh
        have q1 : (k : Int) < (P.length : Int) := by omega
        have q2 : (k : Int) < (H.length : Int) := by omega
        have q3 : (0 : Int) ≤ (k : Int) := by omega
        have HO := hid hown.out
        obtain ⟨cur, hcur⟩ : ∃ z, pth xss H P k = z := ⟨_, rfl⟩
        rw [hcur] at HO hpl
        have HCUR := hid hcur
        by_cases q4 : pp < e
        · have q5 : (pp : Int) < (e : Int) := by omega
          have CK := hid (impl_key n _ _ _ _ cap capl caph capp xss L H P B k pp wr HS.out HR (Nat.le_trans hB hb.out.size) hlt hp (by omega) (hr pp (by omega)))
          have hst := hid (pth_yes (xss := xss) (H := H) (P := P) (k := k) (by omega))
          have hka : kAt xss P k = key xss k pp := by unfold kAt; rw [hp, Int.toNat_natCast]
          obtain ⟨kv, hkv⟩ : ∃ z, key xss k pp = z := ⟨_, rfl⟩
          rw [hkv] at CK
          have HKV := hid (hka.trans hkv)
          clear hcp hch HR hm htr hpm hlv hlev hr hp he hka hkv hcur hown
          go_wp2_with fail
          with_reducible refine CK.out.mono ?_
          rintro e w2 ⟨rfl, hb2⟩
          have HO2 := hid (HO.out.below' hb2)
          have hsz2 : w.heap.size + 1 ≤ w2.heap.size := Nat.le_trans hsz hb2.size
          have BB := hid (hb.out.trans (hb2.mono hb.out.size))
          have K1 := hid (k0.out.below hb2)
          clear c0 c1 c2 c3 c4 z0 gp gh hb2 CK
          go_wp2_with (at_builtin; refine append_int rfl _ _ 27 rfl (w.heap.size + 1) 3 i0 Try.underlying27 hi0 hz0 hz1 hz2 w2 w2 _ cur kv HO2.out (by rfl) (Below.refl _ _) hsz2 _ ?c1 (by rfl) (by omega) ?_)
          case c1 => rfl
          intro v1 w3 hown1 hbel1 hsz3 hgr
          have HO3 := hid (show Own w3 (w.heap.size + 1) eI v1 (pth xss H P (k + 1)) by rw [hst.out, HKV.out, HCUR.out]; exact hown1)
          have K2 := hid (K1.out.under hbel1 (by omega))
          have B2 := hid (BB.out.trans (hbel1.mono (by omega)))
          clear hown1 hbel1 hgr
          go_wp2
          go_roundw
          case rel => exact ⟨k + 1, by omega, by go_num, HO3, K2, B2, hsz3⟩
          case measure => simp [intOf]; omega
        · have q5 : ¬ (pp : Int) < (e : Int) := by omega
          have hst := hid (pth_no (xss := xss) (H := H) (P := P) (k := k) (by omega))
          have HO3 := hid (show Own wr (w.heap.size + 1) eI _ (pth xss H P (k + 1)) by rw [hst.out, HCUR.out]; exact HO.out)
          clear hcp hch HR hm htr hpm hlv hlev hr hp he hcur hown
          go_wp2
          go_roundw
          case rel => exact ⟨k + 1, by omega, by go_num, HO3, k0, hb, hsz⟩
          case measure => simp [intOf]; omega
      · obtain rfl : k = P.length := by omega
        have ho := hown.out
        rw [hzz.out] at ho
        obtain ⟨a5, c5, rfl, _, _, _⟩ := ho.form
        have q1 : ¬ (P.length : Int) < (P.length : Int) := by omega
        have HO := hid (ho.mono (lo' := w.heap.size) (by omega))
        clear ho hown
        go_wp2
        go_ret
        exact ⟨a5, c5, rfl, HO.out, hb.out⟩

theorem own_empty' (w : World) (M : Nat) (e : TypeId) (hM : M ≤ w.heap.size) : Own (w.alloc (.cells #[] e)) M e (.slice (some ⟨w.heap.size, 0, none⟩) 0 0) [] :=
  World.ownsRow_made w #[] 0 hM (by decide) (by decide)

set_option maxRecDepth 100000 in
set_option maxHeartbeats 4000000 in
theorem spec_path (n : Int) (a l h p : Option Addr) (cap capl caph capp : Nat) (xss : List (List Int)) (L H P : List Int) (B : Nat) (w : World) (hs : szI xss L H P ≤ 1048576) (r : ItRd w B a l h p cap capl caph capp xss L H P) (hB : B ≤ w.heap.size) :
    Calls Try.prog 24 #[.agg #[.int .i64 n, .slice a xss.length cap, .slice l L.length capl, .slice h H.length caph, .slice p P.length capp]] w fun e w' => ∃ a c, e = .returned (.slice a (pathN n xss L H P).length c) ∧ Own w' w.heap.size eI (.slice a (pathN n xss L H P).length c) (pathN n xss L H P) ∧ Below w.heap.size w w' := by
  obtain ⟨n1, nl, nx, n3, n4, n5, _, _⟩ := szI_parts hs
  obtain ⟨zs, hzs⟩ : ∃ z, pathN n xss L H P = z := ⟨_, rfl⟩
  rw [hzs]
  have HZ := hid hzs
  have B1 := hid (((Below.refl w.heap.size w).alloc (Nat.le_refl _) (.cells #[.int .i64 n, .slice a xss.length cap, .slice l L.length capl, .slice h H.length caph, .slice p P.length capp] 29)).alloc (by simp) (.cells #[] 3))
  have K0 := hid ((hasl_new w [.int .i64 n, .slice a xss.length cap, .slice l L.length capl, .slice h H.length caph, .slice p P.length capp] 29).alloc (.cells #[] 3))
  have R := hid r
  have HS := hid hs
  have NX := hid nx
  have O0 := own_empty' (w.alloc (.cells #[.int .i64 n, .slice a xss.length cap, .slice l L.length capl, .slice h H.length caph, .slice p P.length capp] 29)) (w.heap.size + 1) 3 (by simp)
  simp only [World.size_alloc] at O0
  have O := hid O0
  have hsz0 : w.heap.size + 1 ≤ ((w.alloc (.cells #[.int .i64 n, .slice a xss.length cap, .slice l L.length capl, .slice h H.length caph, .slice p P.length capp] 29)).alloc (.cells #[] 3)).heap.size := by simp
  obtain ⟨v, hv⟩ : ∃ v, vit n xss L H P = v := ⟨_, rfl⟩
  have HV := hid hv
  obtain ⟨i0, hi0, hz0, hz1, hz2⟩ := info_parts IntLaw.info
  clear r hs nx hzs O0 hv
  go_enter Try.func24, Try.ntmps24
  go_wp2
  go_loopw [3, 4] (fun s3 i wr => ∃ k : Nat, k ≤ P.length ∧ (v = false → k = 0) ∧ i = .int .i64 k ∧ Hid (Own wr (w.heap.size + 1) eI s3 (pth xss H P k)) ∧ Hid (HasL wr w.heap.size [.int .i64 n, .slice a xss.length cap, .slice l L.length capl, .slice h H.length caph, .slice p P.length capp]) ∧ Hid (Below w.heap.size w wr) ∧ w.heap.size + 1 ≤ wr.heap.size) (fun _ i _ => P.length - (intOf i).toNat)
  case atStart => exact ⟨0, Nat.zero_le _, fun _ => rfl, rfl, O, K0, B1, hsz0⟩
  case round =>
    obtain ⟨k, hk, hvk, rfl, hown, k0, hb, hsz⟩ := hrel
    clear K0 B1 hsz0 O
    obtain ⟨c0, c1, c2, c3, c4, _, _, _, _, _, z0⟩ := five k0.out
    have hpl := pth_len xss H P k
    have HR := R.out.below (hb.out.mono hB)
    by_cases hlt : k < P.length
    · have V := hid (spec_vit n a l h p cap capl caph capp xss L H P B wr HS.out HR (Nat.le_trans hB hb.out.size))
      rw [HV.out] at V
      have q1 : (k : Int) < (P.length : Int) := by omega
      have q1' : decide ((k : Int) < (P.length : Int)) = true := by simp; omega
      go_wp2_with fail
      with_reducible refine V.out.mono ?_
      rintro e w1 ⟨rfl, hb2⟩
      have HO := hid (hown.out.below' hb2)
      have hsz2 : w.heap.size + 1 ≤ w1.heap.size := Nat.le_trans hsz hb2.size
      have BB := hid (hb.out.trans (hb2.mono hb.out.size))
      have K1 := hid (k0.out.below hb2)
      clear c0 c1 c2 c3 c4 z0 hb2 V hown
      obtain ⟨c0, c1, c2, c3, c4, _, _, _, _, _, z0⟩ := five K1.out
      cases v with
      | false =>
        obtain rfl : k = 0 := hvk rfl
        obtain rfl : [] = zs := (path_no HV.out).symm.trans HZ.out
        have ho := HO.out
        rw [pth_zero] at ho
        obtain ⟨a5, c5, rfl, _, _, _⟩ := ho.form
        have HO5 := hid (ho.mono (lo' := w.heap.size) (by omega))
        clear ho HO
        go_wp2
        go_ret
        exact ⟨a5, c5, rfl, HO5.out, BB.out⟩
      | true =>
        have VL := hid (vit_lv HV.out)
        obtain ⟨m, hm, htr, hpm, hlv, hlev⟩ := VL.out.2.2
        obtain ⟨lo, pp, e, hp, he, h1, h2, h3, _, _, hr⟩ := hlev k hlt
        have hkH : k < H.length := by have := VL.out.2.1; omega
        have HR2 := R.out.below (BB.out.mono hB)
        obtain ⟨bp, offp, rfl, hbp, hcp⟩ := HR2.p (by omega)
        obtain ⟨bh, offh, rfl, hbh, hch⟩ := HR2.h (by omega)
        have gp := hcp k hlt
        have gh := hch k hkH
        rw [← at0_get hlt, hp] at gp
        rw [← at0_get hkH, he] at gh
        have q2 : (k : Int) < (H.length : Int) := by omega
        have q3 : (0 : Int) ≤ (k : Int) := by omega
        obtain ⟨cur, hcur⟩ : ∃ z, pth xss H P k = z := ⟨_, rfl⟩
        rw [hcur] at HO hpl
        have HCUR := hid hcur
        by_cases q4 : pp < e
        · have q5 : (pp : Int) < (e : Int) := by omega
          obtain ⟨b0, off, rfl, hb0, hc⟩ := HR2.t (by omega)
          obtain ⟨a1, cap1, g1, ro1⟩ := hc pp (by omega)
          obtain ⟨br1, offr1, rfl, _, hcr1⟩ := ro1 (by have := hr pp (by omega); omega)
          have gk1 := hcr1 k (hr pp (by omega))
          rw [← key_at] at gk1
          obtain ⟨m1, hm1⟩ : ∃ mm, (xss[pp]'(by omega)).length = mm := ⟨_, rfl⟩
          have hk1 : (k : Int) < (m1 : Int) := by have := hr pp (by omega); omega
          have hl1 : m1 ≤ 1048576 := by have := NX.out pp (by omega); omega
          rw [hm1] at g1
          have q6 : (pp : Int) < (xss.length : Int) := by omega
          have q7 : (0 : Int) ≤ (pp : Int) := by omega
          have hst := hid (pth_yes (xss := xss) (H := H) (P := P) (k := k) (by omega))
          have hka : kAt xss P k = key xss k pp := by unfold kAt; rw [hp, Int.toNat_natCast]
          obtain ⟨kv, hkv⟩ : ∃ z, key xss k pp = z := ⟨_, rfl⟩
          rw [hkv] at gk1
          have HKV := hid (hka.trans hkv)
          have HB2 := hid BB.out
          clear hcp hch HR HR2 hm htr hpm hlv hlev hr hp he hka hkv hcur hcr1 ro1 hc hm1
          go_wp2_with fail
          go_quiet (fail)
          go_wp2_with fail
          obtain ⟨w2, hw2⟩ : ∃ wo : World, wo = w1.drewN nq := ⟨_, rfl⟩
          have hbq : Below w1.heap.size w1 w2 := by rw [hw2]; exact bel_drewN (Below.refl _ _) (Nat.le_refl _) _
          rw [← hw2]
          have hsz3 : w.heap.size + 1 ≤ w2.drew.heap.size := Nat.le_trans hsz2 hbq.size
          have HO2 := hid (show Own w2.drew (w.heap.size + 1) eI _ cur from (HO.out.below' hbq).below' (Below.refl _ _).drew)
          have K2 := hid (show HasL w2.drew w.heap.size _ from (K1.out.below hbq).drew)
          have BB2 := hid (show Below w.heap.size w w2.drew from (BB.out.trans (hbq.mono BB.out.size)).drew)
          have HLT := hid HO.out.lt
          have g1' : w2.drew.cell? ⟨b0, off + pp, none⟩ = some (.slice (some ⟨br1, offr1, none⟩) m1 cap1) := (hbq.cell (p := ⟨b0, off + pp, none⟩) (by show b0 < _; omega)).trans g1
          have gk1' : w2.drew.cell? ⟨br1, offr1 + k, none⟩ = some (.int .i64 kv) := (hbq.cell (p := ⟨br1, offr1 + k, none⟩) (by show br1 < _; omega)).trans gk1
          have gp' : w2.drew.cell? ⟨bp, offp + k, none⟩ = some (.int .i64 (pp : Int)) := (hbq.cell (p := ⟨bp, offp + k, none⟩) (by show bp < _; omega)).trans gp
          have x1 : w2.drew.cell? ⟨w.heap.size, 1, none⟩ = some (.slice (some ⟨b0, off, none⟩) xss.length cap) := (five K2.out).2.1
          have x4 : w2.drew.cell? ⟨w.heap.size, 4, none⟩ = some (.slice (some ⟨bp, offp, none⟩) P.length capp) := (five K2.out).2.2.2.2.1
          have hcl : cur.length ≤ k := hpl
          clear hw2 g1 gk1 gp gh c0 c1 c2 c3 c4 z0 hbq
          go_region_law (first
            | (refine step_int rfl _ _ 27 rfl (w.heap.size + 1) 3 i0 Try.underlying27 hi0 hz0 hz1 hz2 w2.drew _ cur kv HO2.out (by rfl) hsz3 (by rfl) (by omega) ?_; intro v1 w4 hown4 hgr4))
          all_goals
            have HO4 := hid (show Own w4 (w.heap.size + 1) eI v1 (pth xss H P (k + 1)) by rw [hst.out, HKV.out, HCUR.out]; exact hown4)
            have HB0 : Below (w.heap.size + 1) w2.drew w4 := (Below.refl _ _).grown hgr4 hsz3 (fun q hq => (HO2.out.lt q hq).1)
            have HB4 := hid (BB2.out.trans (HB0.mono (by omega)))
            have K4 := hid (K2.out.under HB0 (by omega))
            have hsz4 : w.heap.size + 1 ≤ w4.heap.size := Nat.le_trans hsz3 HB0.size
            clear hown4 hgr4 HB0 g1' gk1' gp' x1 x4
            go_wp2
            go_roundw
            case rel => exact ⟨k + 1, by omega, (fun h => by cases h), by go_num, HO4, K4, HB4, hsz4⟩
            case measure => simp [intOf]; omega
        · have q5 : ¬ (pp : Int) < (e : Int) := by omega
          have hst := hid (pth_no (xss := xss) (H := H) (P := P) (k := k) (by omega))
          have HO3 := hid (show Own w1 (w.heap.size + 1) eI _ (pth xss H P (k + 1)) by rw [hst.out, HCUR.out]; exact HO.out)
          clear hcp hch HR HR2 hm htr hpm hlv hlev hr hp he hcur
          go_wp2_with fail
          go_quiet (fail)
          clear c0 c1 c2 c3 c4 z0 gp gh
          go_wp2
          go_roundw
          case rel => exact ⟨k + 1, by omega, (fun h => by cases h), by go_num, hid (HO3.out.below' (bel_drewN (Below.refl _ _) (Nat.le_refl _) _)), hid (K1.out.below (bel_drewN (Below.refl _ _) (Nat.le_refl _) _)), hid (bel_drewN BB.out BB.out.size _), hsz2⟩
          case measure => simp [intOf]; omega
    · obtain rfl : k = P.length := by omega
      have hzz : pth xss H P P.length = zs := by
        cases v with
        | true => exact (path_yes HV.out).symm.trans HZ.out
        | false =>
          have h0 := hvk rfl
          rw [h0, pth_zero]
          exact (path_no HV.out).symm.trans HZ.out
      have ho := hown.out
      rw [hzz] at ho
      obtain ⟨a5, c5, rfl, _, _, _⟩ := ho.form
      have q1 : ¬ (P.length : Int) < (P.length : Int) := by omega
      have q1' : decide ((P.length : Int) < (P.length : Int)) = false := by simp
      have HO := hid (ho.mono (lo' := w.heap.size) (by omega))
      clear ho hown hzz hvk
      go_wp2
      go_ret
      exact ⟨a5, c5, rfl, HO.out, hb.out⟩
end Go.Proofs.Ytliomgoakiidfaa.ItPth
