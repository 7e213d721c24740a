/- The laws' own copies of iterators of tries. -/
import Derived.Test.YtliomgoakiidfaaItLaw
namespace Go.Proofs.Ytliomgoakiidfaa.ItTo
open Go.RowKit
open Go.Proofs.Ytliomgoakiidfaa.Num Go.Proofs.Ytliomgoakiidfaa.IntRow Go.Proofs.Ytliomgoakiidfaa.IntLaw Go.Proofs.Ytliomgoakiidfaa.Grid Go.Proofs.Ytliomgoakiidfaa.GridMore Go.Proofs.Ytliomgoakiidfaa.GridLaw Go.Proofs.Ytliomgoakiidfaa.GridLaw2 Go.Proofs.Ytliomgoakiidfaa.TrieLaw Go.Proofs.Ytliomgoakiidfaa.Keep Go.Proofs.Ytliomgoakiidfaa.Kept Go.Proofs.Ytliomgoakiidfaa.Cells Go.Proofs.Ytliomgoakiidfaa.RelKit Go.Proofs.Ytliomgoakiidfaa.HasL Go.Proofs.Ytliomgoakiidfaa.Rdr Go.Proofs.Ytliomgoakiidfaa.ItLaw
set_option linter.unusedVariables false

set_option maxRecDepth 100000 in
set_option maxHeartbeats 2000000 in
theorem to_it (n : Int) (a l h p : Option Addr) (cap capl caph capp : Nat) (xss : List (List Int)) (L H P : List Int) (B : Nat) (w : World) (hs : szI xss L H P ≤ 1048576) (r : ItRd w B a l h p cap capl caph capp xss L H P) (hB : B ≤ w.heap.size) :
    Calls Try.prog 44 #[.agg #[.int .i64 n, .slice a xss.length cap, .slice l L.length capl, .slice h H.length caph, .slice p P.length capp]] w fun e w' => ∃ g vs l' h' p' m, e = .returned (.agg #[.int .i64 n, .slice (some ⟨g, 0, none⟩) xss.length xss.length, .slice (some ⟨l', 0, none⟩) L.length L.length, .slice (some ⟨h', 0, none⟩) H.length H.length, .slice (some ⟨p', 0, none⟩) P.length P.length]) ∧ ItOwn w' w.heap.size m (.slice (some ⟨g, 0, none⟩) xss.length xss.length) vs (.slice (some ⟨l', 0, none⟩) L.length L.length) (.slice (some ⟨h', 0, none⟩) H.length H.length) (.slice (some ⟨p', 0, none⟩) P.length P.length) xss L H P ∧ Below w.heap.size w w' := by
  obtain ⟨n1, _, _, n3, n4, n5, _, _⟩ := szI_parts hs
  have K0 := hid (((hasl_new w [.int .i64 n, .slice a xss.length cap, .slice l L.length capl, .slice h H.length caph, .slice p P.length capp] 52).alloc (.cells #[.int .i64 0, .slice none 0 0, .slice none 0 0, .slice none 0 0, .slice none 0 0] 29)).alloc (.cells #[.int .i64 0, .slice none 0 0, .slice none 0 0, .slice none 0 0, .slice none 0 0] 29))
  have K1 := hid ((hasl_new (w.alloc (.cells #[.int .i64 n, .slice a xss.length cap, .slice l L.length capl, .slice h H.length caph, .slice p P.length capp] 52)) [.int .i64 0, .slice none 0 0, .slice none 0 0, .slice none 0 0, .slice none 0 0] 29).alloc (.cells #[.int .i64 0, .slice none 0 0, .slice none 0 0, .slice none 0 0, .slice none 0 0] 29))
  have K2 := hid (hasl_new ((w.alloc (.cells #[.int .i64 n, .slice a xss.length cap, .slice l L.length capl, .slice h H.length caph, .slice p P.length capp] 52)).alloc (.cells #[.int .i64 0, .slice none 0 0, .slice none 0 0, .slice none 0 0, .slice none 0 0] 29)) [.int .i64 0, .slice none 0 0, .slice none 0 0, .slice none 0 0, .slice none 0 0] 29)
  have B3 := hid ((((Below.refl w.heap.size w).alloc (Nat.le_refl _) (.cells #[.int .i64 n, .slice a xss.length cap, .slice l L.length capl, .slice h H.length caph, .slice p P.length capp] 52)).alloc (by simp) (.cells #[.int .i64 0, .slice none 0 0, .slice none 0 0, .slice none 0 0, .slice none 0 0] 29)).alloc (by simp; omega) (.cells #[.int .i64 0, .slice none 0 0, .slice none 0 0, .slice none 0 0, .slice none 0 0] 29))
  simp only [World.size_alloc] at K1 K2
  have T0 := hid (to_tr n a cap B xss _ n1 (r.t.below (B3.out.mono hB)) (by simp; omega))
  have R := hid r
  clear r
  go_enter Try.func44, Try.ntmps44
  go_wp2_with fail
  with_reducible refine T0.out.mono ?_
  rintro e w1 ⟨vs, g, rfl, hg, hown, hb⟩
  have hs1 := hb.size
  simp only [World.size_alloc] at hs1 hg hown hb ⊢
  replace K0 := hid (K0.out.below (hb.mono (by first | exact Nat.le_refl _ | simp)))
  replace K1 := hid (K1.out.below (hb.mono (by first | exact Nat.le_refl _ | simp)))
  replace K2 := hid (K2.out.below (hb.mono (by first | exact Nat.le_refl _ | simp)))
  have BB := hid (B3.out.trans (hb.mono (by omega)))
  have G := hid (hown.mono (lo' := (w.heap.size + 1 + 1 + 1)) hg)
  have GU := hid (gown_under hown)
  have lg := hown.lt _ rfl
  clear hown hb T0 B3
  obtain ⟨c0_K0, c1_K0, c2_K0, c3_K0, c4_K0, f0_K0, f1_K0, f2_K0, f3_K0, f4_K0, z_K0⟩ := five K0.out
  obtain ⟨c0_K2, c1_K2, c2_K2, c3_K2, c4_K2, f0_K2, f1_K2, f2_K2, f3_K2, f4_K2, z_K2⟩ := five K2.out
  have hW1 : w.heap.size + 3 ≤ w1.heap.size := by omega
  replace K0 := hid (K0.out.far (c := w.heap.size + 1 + 1) (o := 0) (by omega) (.int .i64 n))
  replace K1 := hid (K1.out.far (c := w.heap.size + 1 + 1) (o := 0) (by omega) (.int .i64 n))
  replace K2 := hid (K2.out.put 0 (.int .i64 n))
  replace G := hid (gown_set (b := w.heap.size + 1 + 1) (o := 0) G.out (by omega) (.int .i64 n))
  replace BB := hid (BB.out.setCell (p := ⟨w.heap.size + 1 + 1, 0, none⟩) (by simp; omega) (.int .i64 n))
  replace K0 := hid (K0.out.far (c := w.heap.size + 1 + 1) (o := 1) (by omega) (.slice (some ⟨g, 0, none⟩) xss.length xss.length))
  replace K1 := hid (K1.out.far (c := w.heap.size + 1 + 1) (o := 1) (by omega) (.slice (some ⟨g, 0, none⟩) xss.length xss.length))
  replace K2 := hid (K2.out.put 1 (.slice (some ⟨g, 0, none⟩) xss.length xss.length))
  replace G := hid (gown_set (b := w.heap.size + 1 + 1) (o := 1) G.out (by omega) (.slice (some ⟨g, 0, none⟩) xss.length xss.length))
  replace BB := hid (BB.out.setCell (p := ⟨w.heap.size + 1 + 1, 1, none⟩) (by simp; omega) (.slice (some ⟨g, 0, none⟩) xss.length xss.length))
  have T1 := hid (to_ints l capl B L ((w1.setCell ⟨w.heap.size + 1 + 1, 0, none⟩ (.int .i64 n)).setCell ⟨w.heap.size + 1 + 1, 1, none⟩ (.slice (some ⟨g, 0, none⟩) xss.length xss.length)) (by omega) (R.out.l.below (BB.out.mono hB)) (Nat.le_trans hB BB.out.size))
  simp only [World.size_setCell] at T1
  go_wp2_with fail
  with_reducible refine T1.out.mono ?_
  rintro e w2 ⟨rfl, hat, hb⟩
  have hs2 := hb.size
  simp only [World.size_setCell] at hs2 hat hb ⊢
  clear c0_K0 c1_K0 c2_K0 c3_K0 c4_K0 f0_K0 f1_K0 f2_K0 f3_K0 f4_K0 z_K0
  clear c0_K2 c1_K2 c2_K2 c3_K2 c4_K2 f0_K2 f1_K2 f2_K2 f3_K2 f4_K2 z_K2
  replace K0 := hid (K0.out.below (by simpa using hb))
  replace K1 := hid (K1.out.below (by simpa using hb))
  replace K2 := hid (K2.out.below (by simpa using hb))
  replace G := hid (G.out.below' (by simpa using hb))
  replace BB := hid (BB.out.trans (hb.mono (by omega)))
  have lt1 := hat.lt
  have O1 := hid (show Own w2 w1.heap.size 3 (.slice (some ⟨w1.heap.size, 0, none⟩) L.length L.length) L from own_up (hat.own (Nat.le_refl _)) (fun k hk => by simp [Value.ownBlock] at hk; omega))
  clear hat hb T1
  obtain ⟨c0_K0, c1_K0, c2_K0, c3_K0, c4_K0, f0_K0, f1_K0, f2_K0, f3_K0, f4_K0, z_K0⟩ := five K0.out
  obtain ⟨c0_K2, c1_K2, c2_K2, c3_K2, c4_K2, f0_K2, f1_K2, f2_K2, f3_K2, f4_K2, z_K2⟩ := five K2.out
  replace K0 := hid (K0.out.far (c := w.heap.size + 1 + 1) (o := 2) (by omega) (.slice (some ⟨w1.heap.size, 0, none⟩) L.length L.length))
  replace K1 := hid (K1.out.far (c := w.heap.size + 1 + 1) (o := 2) (by omega) (.slice (some ⟨w1.heap.size, 0, none⟩) L.length L.length))
  replace K2 := hid (K2.out.put 2 (.slice (some ⟨w1.heap.size, 0, none⟩) L.length L.length))
  replace G := hid (gown_set (b := w.heap.size + 1 + 1) (o := 2) G.out (by omega) (.slice (some ⟨w1.heap.size, 0, none⟩) L.length L.length))
  replace O1 := hid (own_turned O1.out (turn_set _ (w.heap.size + 1 + 1) 2 (.slice (some ⟨w1.heap.size, 0, none⟩) L.length L.length)) (.inl (by omega)))
  replace BB := hid (BB.out.setCell (p := ⟨w.heap.size + 1 + 1, 2, none⟩) (by simp; omega) (.slice (some ⟨w1.heap.size, 0, none⟩) L.length L.length))
  have T2 := hid (to_ints h caph B H (w2.setCell ⟨w.heap.size + 1 + 1, 2, none⟩ (.slice (some ⟨w1.heap.size, 0, none⟩) L.length L.length)) (by omega) (R.out.h.below (BB.out.mono hB)) (Nat.le_trans hB BB.out.size))
  simp only [World.size_setCell] at T2
  go_wp2_with fail
  with_reducible refine T2.out.mono ?_
  rintro e w3 ⟨rfl, hat, hb⟩
  have hs3 := hb.size
  simp only [World.size_setCell] at hs3 hat hb ⊢
  clear c0_K0 c1_K0 c2_K0 c3_K0 c4_K0 f0_K0 f1_K0 f2_K0 f3_K0 f4_K0 z_K0
  clear c0_K2 c1_K2 c2_K2 c3_K2 c4_K2 f0_K2 f1_K2 f2_K2 f3_K2 f4_K2 z_K2
  replace K0 := hid (K0.out.below (by simpa using hb))
  replace K1 := hid (K1.out.below (by simpa using hb))
  replace K2 := hid (K2.out.below (by simpa using hb))
  replace G := hid (G.out.below' (by simpa using hb))
  replace O1 := hid (O1.out.below' (by simpa using hb))
  replace BB := hid (BB.out.trans (hb.mono (by omega)))
  have lt2 := hat.lt
  have O2 := hid (show Own w3 w1.heap.size 3 (.slice (some ⟨w2.heap.size, 0, none⟩) H.length H.length) H from own_up (hat.own (Nat.le_refl _)) (fun k hk => by simp [Value.ownBlock] at hk; omega))
  clear hat hb T2
  obtain ⟨c0_K0, c1_K0, c2_K0, c3_K0, c4_K0, f0_K0, f1_K0, f2_K0, f3_K0, f4_K0, z_K0⟩ := five K0.out
  obtain ⟨c0_K2, c1_K2, c2_K2, c3_K2, c4_K2, f0_K2, f1_K2, f2_K2, f3_K2, f4_K2, z_K2⟩ := five K2.out
  replace K0 := hid (K0.out.far (c := w.heap.size + 1 + 1) (o := 3) (by omega) (.slice (some ⟨w2.heap.size, 0, none⟩) H.length H.length))
  replace K1 := hid (K1.out.far (c := w.heap.size + 1 + 1) (o := 3) (by omega) (.slice (some ⟨w2.heap.size, 0, none⟩) H.length H.length))
  replace K2 := hid (K2.out.put 3 (.slice (some ⟨w2.heap.size, 0, none⟩) H.length H.length))
  replace G := hid (gown_set (b := w.heap.size + 1 + 1) (o := 3) G.out (by omega) (.slice (some ⟨w2.heap.size, 0, none⟩) H.length H.length))
  replace O1 := hid (own_turned O1.out (turn_set _ (w.heap.size + 1 + 1) 3 (.slice (some ⟨w2.heap.size, 0, none⟩) H.length H.length)) (.inl (by omega)))
  replace O2 := hid (own_turned O2.out (turn_set _ (w.heap.size + 1 + 1) 3 (.slice (some ⟨w2.heap.size, 0, none⟩) H.length H.length)) (.inl (by omega)))
  replace BB := hid (BB.out.setCell (p := ⟨w.heap.size + 1 + 1, 3, none⟩) (by simp; omega) (.slice (some ⟨w2.heap.size, 0, none⟩) H.length H.length))
  have T3 := hid (to_ints p capp B P (w3.setCell ⟨w.heap.size + 1 + 1, 3, none⟩ (.slice (some ⟨w2.heap.size, 0, none⟩) H.length H.length)) (by omega) (R.out.p.below (BB.out.mono hB)) (Nat.le_trans hB BB.out.size))
  simp only [World.size_setCell] at T3
  go_wp2_with fail
  with_reducible refine T3.out.mono ?_
  rintro e w4 ⟨rfl, hat, hb⟩
  have hs4 := hb.size
  simp only [World.size_setCell] at hs4 hat hb ⊢
  clear c0_K0 c1_K0 c2_K0 c3_K0 c4_K0 f0_K0 f1_K0 f2_K0 f3_K0 f4_K0 z_K0
  clear c0_K2 c1_K2 c2_K2 c3_K2 c4_K2 f0_K2 f1_K2 f2_K2 f3_K2 f4_K2 z_K2
  replace K0 := hid (K0.out.below (by simpa using hb))
  replace K1 := hid (K1.out.below (by simpa using hb))
  replace K2 := hid (K2.out.below (by simpa using hb))
  replace G := hid (G.out.below' (by simpa using hb))
  replace O1 := hid (O1.out.below' (by simpa using hb))
  replace O2 := hid (O2.out.below' (by simpa using hb))
  replace BB := hid (BB.out.trans (hb.mono (by omega)))
  have lt3 := hat.lt
  have O3 := hid (show Own w4 w1.heap.size 3 (.slice (some ⟨w3.heap.size, 0, none⟩) P.length P.length) P from own_up (hat.own (Nat.le_refl _)) (fun k hk => by simp [Value.ownBlock] at hk; omega))
  clear hat hb T3
  obtain ⟨c0_K0, c1_K0, c2_K0, c3_K0, c4_K0, f0_K0, f1_K0, f2_K0, f3_K0, f4_K0, z_K0⟩ := five K0.out
  obtain ⟨c0_K2, c1_K2, c2_K2, c3_K2, c4_K2, f0_K2, f1_K2, f2_K2, f3_K2, f4_K2, z_K2⟩ := five K2.out
  clear c0_K0 c1_K0 c2_K0 c3_K0 c4_K0 f0_K0 f1_K0 f2_K0 f3_K0 f4_K0 z_K0
  obtain ⟨c0_K1, c1_K1, c2_K1, c3_K1, c4_K1, f0_K1, f1_K1, f2_K1, f3_K1, f4_K1, z_K1⟩ := five K1.out
  replace K0 := hid (K0.out.far (c := w.heap.size + 1 + 1) (o := 4) (by omega) (.slice (some ⟨w3.heap.size, 0, none⟩) P.length P.length))
  replace K1 := hid (K1.out.far (c := w.heap.size + 1 + 1) (o := 4) (by omega) (.slice (some ⟨w3.heap.size, 0, none⟩) P.length P.length))
  replace K2 := hid (K2.out.put 4 (.slice (some ⟨w3.heap.size, 0, none⟩) P.length P.length))
  replace G := hid (gown_set (b := w.heap.size + 1 + 1) (o := 4) G.out (by omega) (.slice (some ⟨w3.heap.size, 0, none⟩) P.length P.length))
  replace O1 := hid (own_turned O1.out (turn_set _ (w.heap.size + 1 + 1) 4 (.slice (some ⟨w3.heap.size, 0, none⟩) P.length P.length)) (.inl (by omega)))
  replace O2 := hid (own_turned O2.out (turn_set _ (w.heap.size + 1 + 1) 4 (.slice (some ⟨w3.heap.size, 0, none⟩) P.length P.length)) (.inl (by omega)))
  replace O3 := hid (own_turned O3.out (turn_set _ (w.heap.size + 1 + 1) 4 (.slice (some ⟨w3.heap.size, 0, none⟩) P.length P.length)) (.inl (by omega)))
  replace BB := hid (BB.out.setCell (p := ⟨w.heap.size + 1 + 1, 4, none⟩) (by simp; omega) (.slice (some ⟨w3.heap.size, 0, none⟩) P.length P.length))
  have K3 := hid (((((K1.out.put 0 (.int .i64 n)).put 1 (.slice (some ⟨g, 0, none⟩) xss.length xss.length)).put 2 (.slice (some ⟨w1.heap.size, 0, none⟩) L.length L.length)).put 3 (.slice (some ⟨w2.heap.size, 0, none⟩) H.length H.length)).put 4 (.slice (some ⟨w3.heap.size, 0, none⟩) P.length P.length))
  clear K0
  obtain ⟨r0, r1, r2, r3, r4, _, _, _, _, _, _⟩ := five K3.out
  clear K1 K2 K3
  go_wp2
  refine bodyPost_ret (v := .agg #[.int .i64 n, .slice (some ⟨g, 0, none⟩) xss.length xss.length, .slice (some ⟨w1.heap.size, 0, none⟩) L.length L.length, .slice (some ⟨w2.heap.size, 0, none⟩) H.length H.length, .slice (some ⟨w3.heap.size, 0, none⟩) P.length P.length]) (by simp [results, Try.results44, go_sem, r0, r1, r2, r3, r4]) rfl ⟨g, vs, w1.heap.size, w2.heap.size, w3.heap.size, w1.heap.size, rfl, ?_, ?_⟩
  · have Q0 := ItOwn.mk (m := w1.heap.size) G.out GU.out O1.out O2.out O3.out (fun k h1 h2 => by simp [Value.ownBlock] at h1 h2; omega) (fun k h1 h2 => by simp [Value.ownBlock] at h1 h2; omega) (fun k h1 h2 => by simp [Value.ownBlock] at h1 h2; omega) (by omega) (by simp; omega)
    exact (((((Q0.set (w.heap.size + 1) 0 (.int .i64 n) (by omega)).set (w.heap.size + 1) 1 (.slice (some ⟨g, 0, none⟩) xss.length xss.length) (by omega)).set (w.heap.size + 1) 2 (.slice (some ⟨w1.heap.size, 0, none⟩) L.length L.length) (by omega)).set (w.heap.size + 1) 3 (.slice (some ⟨w2.heap.size, 0, none⟩) H.length H.length) (by omega)).set (w.heap.size + 1) 4 (.slice (some ⟨w3.heap.size, 0, none⟩) P.length P.length) (by omega)).mono (by omega)
  · exact ((((BB.out.setCell (by simp) _).setCell (by simp) _).setCell (by simp) _).setCell (by simp) _).setCell (by simp) _

end Go.Proofs.Ytliomgoakiidfaa.ItTo
