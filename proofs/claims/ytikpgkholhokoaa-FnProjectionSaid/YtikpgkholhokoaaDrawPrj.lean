/- The draw of a relation and columns (spec.DrawProject). -/
import Derived.Test.YtikpgkholhokoaaDraw
import Derived.Test.YtikpgkholhokoaaIntLaw
import Derived.Test.YtikpgkholhokoaaPick
import Derived.Test.YtikpgkholhokoaaNewRS
import Derived.Test.YtikpgkholhokoaaGridHead
import Derived.Test.YtikpgkholhokoaaRelKit
import Derived.Deep.DeepMust
import Derived.RangeFuncRecord
import Derived.Deep.DeepCutAuto
namespace Go.Proofs.Ytikpgkholhokoaa.DrawR
open Go.RowKit
open Go.Proofs.Ytikpgkholhokoaa.Num Go.Proofs.Ytikpgkholhokoaa.IntRow Go.Proofs.Ytikpgkholhokoaa.Cur Go.Proofs.Ytikpgkholhokoaa.Draw
set_option linter.unusedVariables false

theorem grown_then_below {w wr w' : World} {r : Option Nat} (h : w.grownBy wr r) (hb : Below w.heap.size wr w') : w.grownBy w' r :=
  ⟨hb.os.trans h.os, hb.tape.trans h.tape, hb.output.trans h.output, Nat.le_trans h.size hb.size, fun k hk hr => (hb.block k hk).trans (h.block k hk hr)⟩

def slen : Value → Nat
  | .slice _ n _ => n
  | _ => 0
theorem gr_below {w wr w' : World} {r : Option Nat} (h : w.grownBy wr r) (hb : Below w.heap.size wr w') : w.grownBy w' r := grown_then_below h hb
theorem own_moved {w w' : World} {lo c : Nat} {e : TypeId} {v : Value} {xs : List Int} (h : Own w lo e v xs) (hg : w.grownBy w' (some c)) (hc : c < lo) : Own w' lo e v xs :=
  h.grown hg (fun k hk e => by injection e with e; have := (h.lt k hk).1; omega)

/-- What a draw of n ints below m leaves: a new row of them, the cursor moved. -/
def RowAt (c : Nat) (sv : Value) (l : List UInt8) (n : Nat) (m : Int) (w : World) (e : Ending) (w' : World) : Prop :=
  ∃ (xs : List Int) (a : Option Addr) (cap : Nat) (s : St), e = .returned (.slice a n cap) ∧ xs.length = n ∧ (∀ x ∈ xs, 0 ≤ x ∧ x < m) ∧ Own w' w.heap.size 3 (.slice a n cap) xs ∧ Cu w' c sv l s ∧ w.grownBy w' (some c)

theorem row_any (c : Nat) (sv : Value) (l : List UInt8) (s : St) (w : World) (n : Nat) (hn : n ≤ 1000) (m : Int) (hm : 1 ≤ m) (hm2 : m ≤ 1000) (hc : Cu w c sv l s) :
    Calls Try.prog 38 #[.pointer (some ⟨c, 0, none⟩), .int .i64 (n : Nat), .int .i64 m] w fun e w' => RowAt c sv l n m w e w' := by
  obtain ⟨i0, hi, hz0, hz1, hz2⟩ := info_parts IntLaw.info
  have hcl := hc.lt
  have O0 := hid (show Own (w.alloc (.cells #[] 3)) w.heap.size 3 (.slice (some ⟨w.heap.size, 0, none⟩) 0 0) [] from World.ownsRow_made w #[] 0 (Nat.le_refl _) (by decide) (by decide))
  have C0 := hid (hc.below ((Below.refl w.heap.size w).alloc (Nat.le_refl _) (.cells #[] 3)) hcl)
  have G0 := hid (below_grown (r := some c) ((Below.refl w.heap.size w).alloc (Nat.le_refl _) (.cells #[] 3)))
  clear hc
  go_enter Try.func38, Try.ntmps38
  go_wp2
  go_loopw [7] (fun v wr => ∃ (xs : List Int) (a : Option Addr) (cap : Nat) (s1 : St), v = .slice a xs.length cap ∧ xs.length ≤ n ∧ Hid (∀ x ∈ xs, 0 ≤ x ∧ x < m) ∧ Hid (Own wr w.heap.size 3 (.slice a xs.length cap) xs) ∧ Hid (Cu wr c sv l s1) ∧ Hid (w.grownBy wr (some c)) ∧ w.heap.size ≤ wr.heap.size) (fun v _ => n - slen v)
  case atStart => exact ⟨[], _, 0, s, rfl, Nat.zero_le _, hid (by simp), O0, C0, G0, by simp⟩
  case round =>
    obtain ⟨xs, a, cap, s1, rfl, hk, hv, hown, hcu, hgr, hsz⟩ := hrel
    by_cases hlt : xs.length < n
    · have HB := hid (below_any c m sv l s1 wr hcu.out (by omega))
      have hbd := belowF_bounds l m s1 hm
      generalize belowF l m s1 = r at HB hbd
      obtain ⟨z, s2⟩ := r
      simp only at *
      obtain ⟨z0, z1⟩ := hbd
      have hcl2 : xs.length ≤ 1000 := by omega
      go_wp2_with fail
      refine HB.out.mono ?_
      rintro e w1 ⟨rfl, hc1, hg1⟩
      have hsz1 : w.heap.size ≤ w1.heap.size := Nat.le_trans hsz hg1.size
      have O1 := own_moved hown.out hg1 hcl
      have C1 := hid hc1
      have G1 := hid (Cur.grown_trans hgr.out hg1)
      clear hc1 hg1 HB
      go_wp2_with (at_builtin; refine append_int rfl _ _ 27 rfl w.heap.size 3 i0 Try.underlying27 hi hz0 hz1 hz2 w1 w1 _ xs z O1 (by rfl) (Below.refl _ _) hsz1 _ ?c1 (by rfl) (by omega) ?_)
      case c1 => rfl
      intro v2 w2 hown2 hbel2 hsz2 hgr2
      obtain ⟨a2, cap2, rfl, _, _, _⟩ := hown2.form
      have O2 := hid hown2
      have C2 := hid (C1.out.below hbel2 hcl)
      have G2 := hid (gr_below G1.out hbel2)
      have HV := hid (show ∀ x ∈ xs ++ [z], 0 ≤ x ∧ x < m from fun x hx => by
        rcases List.mem_append.1 hx with h | h
        · exact hv.out x h
        · obtain rfl := List.mem_singleton.1 h; exact ⟨z0, z1⟩)
      have hl2 : (xs ++ [z]).length = xs.length + 1 := by simp
      clear hown2 hbel2 hgr2 O1
      go_wp2_with fail
      go_roundw
      case rel => exact ⟨xs ++ [z], a2, cap2, s2, rfl, by omega, HV, O2, C2, G2, hsz2⟩
      case measure => simp only [slen]; omega
    · have e : xs.length = n := by omega
      subst e
      go_wp2_with fail
      go_ret
      exact ⟨xs, a, cap, s1, rfl, rfl, hv.out, hown.out, hcu.out, hgr.out⟩

end Go.Proofs.Ytikpgkholhokoaa.DrawR

namespace Go.Proofs.Ytikpgkholhokoaa.DrawRel
open Go.RowKit
open Go.Proofs.Ytikpgkholhokoaa.Num Go.Proofs.Ytikpgkholhokoaa.IntRow Go.Proofs.Ytikpgkholhokoaa.IntLaw Go.Proofs.Ytikpgkholhokoaa.Grid Go.Proofs.Ytikpgkholhokoaa.GridMore Go.Proofs.Ytikpgkholhokoaa.GridLaw Go.Proofs.Ytikpgkholhokoaa.GridLaw2 Go.Proofs.Ytikpgkholhokoaa.GridApp Go.Proofs.Ytikpgkholhokoaa.GridHead Go.Proofs.Ytikpgkholhokoaa.Keep Go.Proofs.Ytikpgkholhokoaa.Kept Go.Proofs.Ytikpgkholhokoaa.Cells Go.Proofs.Ytikpgkholhokoaa.RelKit Go.Proofs.Ytikpgkholhokoaa.Asc Go.Proofs.Ytikpgkholhokoaa.SrtD Go.Proofs.Ytikpgkholhokoaa.NewRS Go.Proofs.Ytikpgkholhokoaa.Cur Go.Proofs.Ytikpgkholhokoaa.Draw Go.Proofs.Ytikpgkholhokoaa.DrawR
set_option linter.unusedVariables false

theorem gown_litD (w : World) (lo : Nat) (h : lo ≤ w.heap.size) : GOwn (w.alloc (.cells #[] eR)) lo eR eI (.slice (some ⟨w.heap.size, 0, none⟩) 0 0) [] [] :=
  ⟨rfl, World.ownsRow_made w #[] 0 h (by decide) (by decide), fun j h => by simp at h, fun i j u u' k _ h => by simp at h⟩
theorem gown_movedD {w w' : World} {lo c : Nat} {v : Value} {vs : List Value} {xss : List (List Int)} (h : GOwn w lo eR eI v vs xss) (hg : w.grownBy w' (some c)) (hc : c < lo) : GOwn w' lo eR eI v vs xss :=
  gown_turned (lo := c) (hi := c + 1) h ⟨hg.os, hg.tape, hg.output, hg.size, fun k hk hkk => hg.block k hk (fun e => by injection e with e; omega)⟩ (.inl hc)
theorem tot_snoc (xss : List (List Int)) (r : List Int) : tot (xss ++ [r]) = tot xss + (1 + r.length) := by
  simp [tot]; omega

/-- What a draw of a relation leaves: of rows of its arity; of any. -/
def RelR (c : Nat) (sv : Value) (l : List UInt8) (w : World) (e : Ending) (w' : World) : Prop :=
  ∃ (n : Int) (xss : List (List Int)) (a : Option Addr) (cap : Nat) (vs : List Value) (s : St), e = .returned (.agg #[.int .i64 n, .slice a xss.length cap]) ∧ (0 ≤ n ∧ n ≤ 20) ∧ (∀ x ∈ xss, (x.length : Int) = n) ∧ tot xss ≤ 24000 ∧ GOwn w' w.heap.size eR eI (.slice a xss.length cap) vs xss ∧ Cu w' c sv l s ∧ w.grownBy w' (some c)
def RelAt (c : Nat) (sv : Value) (l : List UInt8) (w : World) (e : Ending) (w' : World) : Prop :=
  ∃ (n : Int) (xss : List (List Int)) (a : Option Addr) (cap : Nat) (vs : List Value) (s : St), e = .returned (.agg #[.int .i64 n, .slice a xss.length cap]) ∧ (-1 ≤ n ∧ n ≤ 21) ∧ tot xss ≤ 24100 ∧ GOwn w' w.heap.size eR eI (.slice a xss.length cap) vs xss ∧ Cu w' c sv l s ∧ w.grownBy w' (some c)
theorem rows_new (n : Int) (xss : List (List Int)) : ∀ x ∈ newR n xss, (x.length : Int) = newN n xss := by
  cases h : newOk n xss with
  | false => rw [(new_no h).1]; intro x hx; simp at hx
  | true =>
    rw [(new_yes h).1, (new_yes h).2]
    intro x hx
    exact ((vrel_parts (show vrel n (sortD xss) = true from h)).2.2.1 x hx).1

set_option maxRecDepth 100000 in
set_option maxHeartbeats 4000000 in
theorem rel_any (c : Nat) (sv : Value) (l : List UInt8) (s : St) (w : World) (m : Nat) (hm : m ≤ 10) (k q : Int) (hk : 0 ≤ k ∧ k ≤ 20) (hq : 1 ≤ q ∧ q ≤ 1000) (hc : Cu w c sv l s) :
    Calls Try.prog 37 #[.pointer (some ⟨c, 0, none⟩), .int .i64 (m : Nat), .int .i64 k, .int .i64 q] w fun e w' => RelR c sv l w e w' := by
  have hcl := hc.lt
  have K0 := hid ((has2_new w (.int .i64 0) (.slice none 0 0) 26).alloc (.cells #[] eR))
  have G0 := gown_litD (w.alloc (.cells #[.int .i64 0, .slice none 0 0] 26)) (w.heap.size + 1) (by simp)
  simp only [World.size_alloc] at G0
  have HG0 := hid G0
  have B0 : Below w.heap.size w ((w.alloc (.cells #[.int .i64 0, .slice none 0 0] 26)).alloc (.cells #[] eR)) := ((Below.refl w.heap.size w).alloc (Nat.le_refl _) _).alloc (by simp) _
  have C0 := hid (hc.below B0 hcl)
  have R0 := hid (below_grown (r := some c) B0)
  have hs0 : ((w.alloc (.cells #[.int .i64 0, .slice none 0 0] 26)).alloc (.cells #[] eR)).heap.size = w.heap.size + 2 := by simp
  have hw1 : IntKind.i64.wrap (k + 1) = k + 1 := IntWalk.i64_in _ (by omega)
  have HB := hid (below_any c (k + 1) sv l s _ C0.out (by omega))
  have hbd := belowF_bounds l (k + 1) s (by omega)
  generalize belowF l (k + 1) s = r at HB hbd
  obtain ⟨z, s1⟩ := r
  simp only at *
  obtain ⟨j0, rfl⟩ := Int.eq_ofNat_of_zero_le hbd.1
  have hj0 : j0 ≤ 20 := by omega
  obtain ⟨i1, hj, hy0, hy1, hy2⟩ := info_parts GridLaw.info
  clear hc hbd G0 B0
  go_enter Try.func37, Try.ntmps37
  go_wp2_with fail
  refine HB.out.mono ?_
  rintro e w1 ⟨rfl, hc1, hg1⟩
  have hs1 := hg1.size
  rw [hs0] at hs1
  have K1 := hid (has2_grown K0.out hg1 (fun e => by injection e; omega))
  have HG1 := hid (gown_movedD HG0.out hg1 (by omega))
  have C1 := hid hc1
  have R1 := hid (Cur.grown_trans R0.out hg1)
  clear hc1 hg1 HB K0 HG0 C0 R0 hs0 hw1
  go_wp2
  go_loopw [9, 10] (fun v i wr => ∃ (xss : List (List Int)) (vs : List Value) (j : Nat) (s2 : St), i = .int .i64 (j : Nat) ∧ j ≤ 20 ∧ xss.length + j ≤ 20 ∧ Hid (tot xss ≤ 11 * xss.length) ∧ Hid (GOwn wr (w.heap.size + 1) eR eI v vs xss) ∧ Hid (Cu wr c sv l s2) ∧ Hid (w.grownBy wr (some c)) ∧ Hid (Has2 wr w.heap.size (.int .i64 0) (.slice none 0 0)) ∧ w.heap.size + 1 ≤ wr.heap.size) (fun _ i _ => (intOf i).toNat)
  case atStart => exact ⟨[], [], j0, s1, rfl, hj0, by simpa using hj0, hid (by decide), HG1, C1, R1, K1, by omega⟩
  case round =>
    obtain ⟨xss, vs, j, s2, rfl, hj20, hlj, htt, hgo, hcu, hgr, hk3, hsz⟩ := hrel
    clear HG1 C1 R1 K1
    by_cases hlt : 0 < j
    · have HR := hid (row_any c sv l s2 wr m (by omega) q hq.1 hq.2 hcu.out)
      have hlt' : (0 : Int) < (j : Int) := by omega
      have hwj : IntKind.i64.wrap ((j : Int) - 1) = (j : Int) - 1 := IntWalk.i64_in _ (by omega)
      have hjm : (j : Int) - 1 = ((j - 1 : Nat) : Int) := by omega
      have HJM := hid hjm
      have hxl : xss.length ≤ 1048576 := by omega
      clear hjm
      go_wp2_with fail
      with_reducible refine HR.out.mono ?_
      rintro e w5 ⟨ys, au, capu, s3, rfl, hyl, hyv, hu, hc5, hg5⟩
      have hs5 := hg5.size
      have hO2 := hid (gown_movedD hgo.out hg5 (by omega))
      have HU := hid hu
      have HW := hid (fun u (hu : u ∈ vs) => (rws_of hgo.out).lt hu)
      have hfar := hid (show ∀ u' ∈ vs, Far (.slice au m capu) u' from fun u' hu2 q hq hq2 => by have t1 := (HU.out.lt q hq).1; have t2 := (HW.out u' hu2 q hq2).2; omega)
      have HU2 := hid (show Own w5 (w.heap.size + 1) eI (.slice au m capu) ys from HU.out.mono (by omega))
      have K5 := hid (has2_grown hk3.out hg5 (fun e => by injection e; omega))
      have C5 := hid hc5
      have R5 := hid (Cur.grown_trans hgr.out hg5)
      have HVL := hid hO2.out.lt
      have HTT := hid (show tot (xss ++ [ys]) ≤ 11 * (xss ++ [ys]).length by have := htt.out; rw [tot_snoc, hyl]; simp; omega)
      have HLJ := hid (show (xss ++ [ys]).length + (j - 1) ≤ 20 by simp; omega)
      clear hu hc5 hg5 HR hyv hgo hcu hgr hk3
      go_wp2_with (at_builtin; refine wpList_head rfl _ _ 24 rfl eR eI eRI i1 Try.underlying24 hj hy0 hy1 hy2 w5 (w.heap.size + 1) _ (.slice au m capu) vs xss ys (by rfl) hO2.out HU2.out hfar.out rfl hxl (by omega) ?_; intro v' w6 hg2 hgr2 hs6; have hg2' := hid hg2; have hgr2' := hid hgr2; clear hg2 hgr2)
      have K6 := hid (has2_grown K5.out hgr2'.out (fun e => by have t1 := (HVL.out _ e).1; omega))
      have BM : Below (w.heap.size + 1) w5 w6 := (Below.refl _ _).grown hgr2'.out (by omega) (fun q hq => (HVL.out q hq).1)
      have C6 := hid (C5.out.below BM (by omega))
      have R6 := hid (gr_below R5.out (BM.mono (by omega)))
      have hs7 := BM.size
      clear BM hO2 HU HU2 HW HVL K5 C5 R5 hfar
      go_wp2
      go_roundw
      case rel => exact ⟨xss ++ [ys], _, j - 1, s3, by rw [HJM.out], by omega, HLJ.out, HTT, hg2', C6, R6, K6, by omega⟩
      case measure => simp [intOf]; omega
    · obtain rfl : j = 0 := by omega
      obtain ⟨av, capv, hav, hcapv, _, _⟩ := hgo.out.form
      subst hav
      have hnlt : ¬ (0 : Int) < ((0 : Nat) : Int) := by omega
      have N := hid (spec_new (m : Nat) av capv wr.heap.size xss wr (by have := htt.out; omega) hcapv (gown_rd hgo.out) (Nat.le_refl _))
      have hnt := tot_new (m : Int) xss
      have hrr := rows_new (m : Int) xss
      have hnn : 0 ≤ newN (m : Int) xss ∧ newN (m : Int) xss ≤ 20 := by
        unfold newN
        split
        · omega
        · omega
      obtain ⟨zss, hz⟩ : ∃ z, newR (m : Int) xss = z := ⟨_, rfl⟩
      obtain ⟨nn, hnn2⟩ : ∃ z, newN (m : Int) xss = z := ⟨_, rfl⟩
      rw [hz, hnn2] at N
      rw [hz] at hnt
      rw [hnn2] at hnn
      rw [hz, hnn2] at hrr
      have HRR := hid hrr
      clear hz hnn2 hrr
      go_wp2_with fail
      with_reducible refine N.out.mono ?_
      rintro e w5 ⟨a5, c5, vs5, rfl, hown, hb5⟩
      have hs5 := hb5.size
      have K5 := hid ((hk3.out.below hb5).alloc (.cells #[.int .i64 nn, .slice a5 zss.length c5] 26))
      have HO5 := hid (hown.alloc (.cells #[.int .i64 nn, .slice a5 zss.length c5] 26))
      have hset := has2_set (u := .int .i64 nn) (v := .slice a5 zss.length c5) K5.out
      have BB : Below (w.heap.size + 1) wr (w5.alloc (.cells #[.int .i64 nn, .slice a5 zss.length c5] 26)) := (hb5.mono hsz).alloc (by omega) _
      have C5 := hid (hcu.out.below BB (by omega))
      have R5 := hid (gr_below hgr.out (BB.mono (by omega)))
      clear hown hb5 N hgo hcu hgr hk3
      obtain ⟨e0, e1, z3, _, _⟩ := K5.out
      go_wp2
      refine bodyPost_ret (v := .agg #[.int .i64 nn, .slice a5 zss.length c5]) (by simp [results, Try.results37, go_sem, hset.1, hset.2.1]) rfl ⟨nn, zss, a5, c5, vs5, s2, rfl, by omega, HRR.out, by omega, ?_, ?_, ?_⟩
      · exact gown_mono (gown_set (gown_set HO5.out (by omega) _) (by omega) _) (by omega)
      · have BS : Below w.heap.size (w5.alloc (.cells #[.int .i64 nn, .slice a5 zss.length c5] 26)) _ := ((Below.refl w.heap.size _).setCell (p := ⟨w.heap.size, 0, none⟩) (Nat.le_refl _) (.int .i64 nn)).setCell (p := ⟨w.heap.size, 1, none⟩) (Nat.le_refl _) (.slice a5 zss.length c5)
        exact C5.out.below BS hcl
      · have BS : Below w.heap.size (w5.alloc (.cells #[.int .i64 nn, .slice a5 zss.length c5] 26)) _ := ((Below.refl w.heap.size _).setCell (p := ⟨w.heap.size, 0, none⟩) (Nat.le_refl _) (.int .i64 nn)).setCell (p := ⟨w.heap.size, 1, none⟩) (Nat.le_refl _) (.slice a5 zss.length c5)
        exact gr_below R5.out BS

theorem list_cellR (zs : List Int) (j : Nat) (hj : j < zs.length) : ((zs.map (Value.int .i64)).toArray)[j]? = some (.int .i64 (zs.getD j 0)) := by
  simp [List.getD, hj]
theorem getD_bd (zs : List Int) (lo hi : Int) (h0 : lo ≤ 0 ∧ 0 ≤ hi) (h : ∀ z ∈ zs, lo ≤ z ∧ z ≤ hi) (j : Nat) : lo ≤ zs.getD j 0 ∧ zs.getD j 0 ≤ hi := by
  rw [List.getD_eq_getElem?_getD]
  rcases Nat.lt_or_ge j zs.length with hj | hj
  · rw [List.getElem?_eq_getElem hj]; exact h _ (List.getElem_mem hj)
  · rw [List.getElem?_eq_none hj]; exact h0
theorem sum_set : ∀ (xss : List (List Int)) (j : Nat) (hj : j < xss.length) (ys : List Int), ys.length = xss[j].length → ((xss.set j ys).map List.length).sum = (xss.map List.length).sum
  | x :: t, 0, _, ys, h => by simp at h; simp [h]
  | x :: t, j + 1, hj, ys, h => by
    have := sum_set t j (by simpa using hj) ys (by simpa using h)
    rw [List.set_cons_succ, List.map_cons, List.map_cons, List.sum_cons, List.sum_cons, this]
theorem tot_set {xss : List (List Int)} {j : Nat} (hj : j < xss.length) (ys : List Int) (hl : ys.length = xss[j].length) : tot (xss.set j ys) = tot xss := by
  unfold tot
  rw [sum_set xss j hj ys hl, List.length_set]
/-- A box of another type than the grid's rows may be written. -/
theorem gown_box {w : World} {lo b : Nat} {v : Value} {vs : List Value} {xss : List (List Int)} {cs : Array Value} {t : TypeId} (h : GOwn w lo eR eI v vs xss) (hb : w.heap[b]? = some (.cells cs t (0, 0))) (h1 : t ≠ eR) (h2 : t ≠ eI) (o : Nat) (u : Value) : GOwn (w.setCell ⟨b, o, none⟩ u) lo eR eI v vs xss := by
  refine h.grown (row := some b) ⟨rfl, rfl, rfl, by simp, fun k hk hne => Below.heap_setCell _ _ _ _ (fun e => hne (by rw [e]))⟩ (fun k hk e => ?_) (fun j x k hx hk e => ?_)
  · injection e with e
    subst e
    obtain ⟨cur, hc⟩ := own_block h.row hk
    rw [hb] at hc
    injection hc with hc
    injection hc with _ hc
    exact h1 hc
  · injection e with e
    subst e
    have hj : j < xss.length := by rw [← h.len]; exact (List.getElem?_eq_some_iff.1 hx).1
    obtain ⟨cur, hc⟩ := own_block (h.own j hj x hx) hk
    rw [hb] at hc
    injection hc with hc
    injection hc with _ hc
    exact h2 hc
theorem cell_movedR {w w' : World} {o : Obj} {b c : Nat} {x : Value} (h : w.cell? ⟨b, 0, none⟩ = some x) (hg : ((w.alloc o).drew).grownBy w' (some c)) (hb : b < w.heap.size) (hc : b ≠ c) : w'.cell? ⟨b, 0, none⟩ = some x := by
  have h1 : ((w.alloc o).drew).cell? ⟨b, 0, none⟩ = some x := (World.cell?_alloc_lt w o ⟨b, 0, none⟩ hb).trans h
  exact (World.cell?_of_block (w := (w.alloc o).drew) (a := ⟨b, 0, none⟩) (hg.block b (by show b < (w.alloc o).heap.size; simp; omega) (fun e => by injection e with e; exact hc e))).trans h1
theorem at_movedR {w w' : World} {g c cap : Nat} {e : TypeId} {xs : List Int} (h : At w g e cap xs) (hg : w.grownBy w' (some c)) (hc : c < g) : At w' g e cap xs := own_moved (lo := g) h hg hc
theorem has2_p0 {w : World} {b : Nat} {x y u : Value} (h : Has2 w b x y) : Has2 (w.setCell ⟨b, 0, none⟩ u) b u y := by
  obtain ⟨h0, h1, h2, h3, h4⟩ := h
  exact ⟨World.cell?_setCell_same _ _ _ h0, by rw [World.cell?_setCell_other _ _ _ _ (by simp)]; exact h1, by simpa using h2, by rw [World.frozen?_setCell]; exact h3, by rw [World.frozen?_setCell]; exact h4⟩
theorem has2_p1 {w : World} {b : Nat} {x y u : Value} (h : Has2 w b x y) : Has2 (w.setCell ⟨b, 1, none⟩ u) b x u := by
  obtain ⟨h0, h1, h2, h3, h4⟩ := h
  exact ⟨by rw [World.cell?_setCell_other _ _ _ _ (by simp)]; exact h0, World.cell?_setCell_same _ _ _ h1, by simpa using h2, by rw [World.frozen?_setCell]; exact h3, by rw [World.frozen?_setCell]; exact h4⟩

set_option maxRecDepth 100000 in
set_option maxHeartbeats 8000000 in
theorem any_rel (c : Nat) (sv : Value) (l : List UInt8) (s : St) (w : World) (hc : Cu w c sv l s) :
    Calls Try.prog 19 #[.pointer (some ⟨c, 0, none⟩)] w fun e w' => RelAt c sv l w e w' := by
  have hcl := hc.lt
  have K0 := hid (has2_new w (.int .i64 0) (.slice none 0 0) 26)
  have B0 : Below w.heap.size w (w.alloc (.cells #[.int .i64 0, .slice none 0 0] 26)) := (Below.refl w.heap.size w).alloc (Nat.le_refl _) _
  have C0 := hid (hc.below B0 hcl)
  have R0 := hid (below_grown (r := some c) B0)
  have HB := hid (below_any c 4 sv l s _ C0.out (by omega))
  have hbd := belowF_bounds l 4 s (by omega)
  generalize belowF l 4 s = r at HB hbd
  obtain ⟨z, s1⟩ := r
  simp only at *
  obtain ⟨m, rfl⟩ := Int.eq_ofNat_of_zero_le hbd.1
  have hm : m ≤ 3 := by omega
  clear hc hbd B0
  go_enter Try.func19, Try.ntmps19
  go_wp2_with fail
  refine HB.out.mono ?_
  rintro e w1 ⟨rfl, hc1, hg1⟩
  have hs1 := hg1.size
  simp only [World.size_alloc] at hs1
  have K1 := hid (has2_grown K0.out hg1 (fun e => by injection e; omega))
  have R1 := hid (Cur.grown_trans R0.out hg1)
  have HR := hid (rel_any c sv l s1 w1 m (by omega) 6 4 (by omega) (by omega) hc1)
  clear hc1 hg1 HB K0 C0 R0
  go_wp2_with fail
  refine HR.out.mono ?_
  rintro e w2 ⟨n, xss, a, cap, vs, s2, rfl, hn, hrows, htt, hgo, hc2, hg2⟩
  have hs2 := hg2.size
  have K2 := hid ((has2_grown K1.out hg2 (fun e => by injection e; omega)).alloc (.cells #[.int .i64 n, .slice a xss.length cap] 26))
  have R2 := hid (has2_new w2 (.int .i64 n) (.slice a xss.length cap) 26)
  have C2 := hid (hc2.below ((Below.refl w2.heap.size w2).alloc (Nat.le_refl _) (.cells #[.int .i64 n, .slice a xss.length cap] 26)) hc2.lt)
  have G2 := hid (hgo.alloc (.cells #[.int .i64 n, .slice a xss.length cap] 26))
  have W2 := hid (gr_below (Cur.grown_trans R1.out hg2) ((Below.refl w.heap.size w2).alloc (by omega) (.cells #[.int .i64 n, .slice a xss.length cap] 26)))
  have hwl : (w2.alloc (.cells #[.int .i64 n, .slice a xss.length cap] 26)).heap.size = w2.heap.size + 1 := by simp
  have HRW := hid hrows
  have HGU := hid (gown_under hgo)
  have BX2 := hid (World.alloc_heap_new w2 (.cells #[.int .i64 n, .slice a xss.length cap] 26))
  have HB := hid (below_any c 14 sv l s2 _ C2.out (by omega))
  generalize belowF l 14 s2 = r at HB
  obtain ⟨t, s3⟩ := r
  simp only at *
  clear hgo hc2 hg2 hrows HR K1 R1
  go_wp2_with fail
  refine HB.out.mono ?_
  rintro e w3 ⟨rfl, hc3, hg3⟩
  have hs3 := hg3.size
  rw [hwl] at hs3
  have hc2l : c < w2.heap.size := by omega
  have K3 := hid (has2_grown K2.out hg3 (fun e => by injection e; omega))
  have R3 := hid (has2_grown R2.out hg3 (fun e => by injection e; omega))
  have G3 := hid (gown_movedD G2.out hg3 (by omega))
  have C3 := hid hc3
  have W3 := hid (Cur.grown_trans W2.out hg3)
  have BX3 := hid ((hg3.block w2.heap.size (by rw [hwl]; omega) (fun e => by injection e; omega)).trans BX2.out)
  clear hc3 hg3 HB K2 R2 C2 G2 W2 hwl
  by_cases t0 : t = 0
  · subst t0
    have htt0 : ((0 : Int) == 0) = true := rfl
    have hw1 : IntKind.i64.wrap (n + 1) = n + 1 := IntWalk.i64_in _ (by omega)
    have CA := hid (C3.out.below ((Below.refl w3.heap.size w3).alloc (Nat.le_refl _) (.cells #[.int .i64 (-1), .int .i64 6, .int .i64 (n + 1)] 3)) C3.out.lt)
    have KA := hid (K3.out.alloc (.cells #[.int .i64 (-1), .int .i64 6, .int .i64 (n + 1)] 3))
    have RA := hid (R3.out.alloc (.cells #[.int .i64 (-1), .int .i64 6, .int .i64 (n + 1)] 3))
    have GA := hid (G3.out.alloc (.cells #[.int .i64 (-1), .int .i64 6, .int .i64 (n + 1)] 3))
    have WA := hid (gr_below W3.out ((Below.refl w.heap.size w3).alloc (by omega) (.cells #[.int .i64 (-1), .int .i64 6, .int .i64 (n + 1)] 3)))
    have hyb : -1 ≤ (Pick.pickF l [-1, 6, n + 1] s3).1 ∧ (Pick.pickF l [-1, 6, n + 1] s3).1 ≤ 21 := getD_bd [-1, 6, n + 1] (-1) 21 (by omega) (by intro z hz; simp at hz; omega) _
    obtain ⟨p0, p1, pz, _, _⟩ := R3.out
    go_wp2_with fail
    refine (Pick.pick_any c sv l s3 _ CA.out w3.heap.size 3 [-1, 6, n + 1] (by simp) (by simp) (by omega) ?_).mono ?_
    · intro j hj
      refine (World.cell?_alloc_at _ _ _ _ rfl).trans ?_
      exact list_cellR [-1, 6, n + 1] j hj
    generalize Pick.pickF l [-1, 6, n + 1] s3 = r5 at hyb ⊢
    obtain ⟨y, s5⟩ := r5
    rintro e w4 ⟨rfl, hc4, hg4⟩
    have hs4 := hg4.size
    simp only [World.size_alloc] at hs4
    have K4 := hid (has2_far (has2_grown KA.out hg4 (fun e => by injection e; omega)) (c := w2.heap.size) (o := 0) (by omega) (.int .i64 y))
    have R4 := hid (has2_p0 (u := .int .i64 y) (has2_grown RA.out hg4 (fun e => by injection e; omega)))
    have R4a := hid (has2_grown RA.out hg4 (fun e => by injection e; omega))
    have BS : Below w2.heap.size w4 (w4.setCell ⟨w2.heap.size, 0, none⟩ (.int .i64 y)) := (Below.refl _ _).setCell (p := ⟨w2.heap.size, 0, none⟩) (Nat.le_refl _) _
    have G4 := hid (gown_turned (lo := w2.heap.size) (hi := w2.heap.size + 1) (gown_movedD GA.out hg4 (by omega)) ⟨rfl, rfl, rfl, by simp, fun k hk hkk => Below.heap_setCell _ _ _ _ (by simp; omega)⟩ (.inr HGU.out) : GOwn (w4.setCell ⟨w2.heap.size, 0, none⟩ (.int .i64 y)) w1.heap.size eR eI (.slice a xss.length cap) vs xss)
    have C4 := hid (Cu.below hc4 BS (by omega))
    have W4 := hid (gr_below (Cur.grown_trans WA.out hg4) (BS.mono (by omega)))
    clear hc4 hg4 CA KA RA GA WA BS p0 p1 pz K3 R3 G3 C3 W3
    obtain ⟨p0, p1, pz, _, _⟩ := R4a.out
    simp only at hyb

    have hset := has2_set (u := .int .i64 y) (v := .slice a xss.length cap) K4.out
    obtain ⟨p0, p1, pz, _, _⟩ := R4.out
    obtain ⟨q0, q1, qz, _, _⟩ := K4.out
    go_wp2
    refine bodyPost_ret (v := .agg #[.int .i64 y, .slice a xss.length cap]) (by simp [results, Try.results19, go_sem, hset.1, hset.2.1]) rfl ⟨y, xss, a, cap, vs, s5, rfl, ⟨hyb.1, hyb.2⟩, by omega, ?_, ?_, ?_⟩
    · exact gown_mono (gown_set (gown_set G4.out (by omega) _) (by omega) _) (by omega)
    · exact C4.out.below (((Below.refl w.heap.size _).setCell (p := ⟨w.heap.size, 0, none⟩) (Nat.le_refl _) (.int .i64 y)).setCell (p := ⟨w.heap.size, 1, none⟩) (Nat.le_refl _) (.slice a xss.length cap)) hcl
    · exact gr_below W4.out (((Below.refl w.heap.size _).setCell (p := ⟨w.heap.size, 0, none⟩) (Nat.le_refl _) (.int .i64 y)).setCell (p := ⟨w.heap.size, 1, none⟩) (Nat.le_refl _) (.slice a xss.length cap))
  · by_cases t1 : t = 1
    · subst t1
      have e0 : ((1 : Int) == 0) = false := rfl
      have e1 : ((1 : Int) == 1) = true := rfl
      obtain ⟨mn, rfl⟩ := Int.eq_ofNat_of_zero_le hn.1
      have hmn : mn ≤ 20 := by omega
      have D := row_any c sv l s3 w3.drew mn (by omega) 4 (by omega) (by omega) C3.out.drew
      rw [show ((mn : Nat) : Int) = (if 0 < mn then (mn : Int) else 0) by split <;> omega] at D
      have HD := hid D
      clear D
      obtain ⟨i1, hj, hy0, hy1, hy2⟩ := info_parts GridLaw.info
      have hxl : xss.length ≤ 1048576 := len_le (by omega)
      have hcl3 : c < w3.heap.size := by omega
      obtain ⟨p0, p1, pz, pf0, pf1⟩ := R3.out
      go_wp2_with fail
      go_region_law
        (first
          | (go_simp; go_at_call 38; go_must (with_reducible refine HD.out.mono ?_); rintro e w5 ⟨ys, au, capu, s5, rfl, hyl, hyv, hu, hc5, hg5⟩; have hs5 : w3.heap.size ≤ w5.heap.size := hg5.size; have HU := hid hu; have HC5 := hid hc5; have HG5 := hid hg5; have H3 := hid (has2_grown R3.out.drew hg5 (fun e => by injection e; omega)); obtain ⟨m0, m1, mz, mf0, mf1⟩ := H3.out; clear hu hc5 hg5 hyv)
          | (refine step_head rfl _ _ 24 rfl eR eI eRI i1 Try.underlying24 hj hy0 hy1 hy2 w5 w1.heap.size (.slice a xss.length cap) (.slice au mn capu) vs xss ys (by rfl) (gown_movedD G3.out.drew HG5.out (by omega)) (HU.out.mono (by show w1.heap.size ≤ w3.heap.size; omega)) (fun u' hu2 q hq hq2 => by have t1 : w3.heap.size ≤ q := (HU.out.lt q hq).1; obtain ⟨jj, hjj⟩ := List.mem_iff_getElem?.1 hu2; have t2 := HGU.out.2 jj u' hjj q hq2; omega) (by rfl) hxl (by omega) ?_; intro v' w6 hg2 hgr2 hs6; obtain ⟨zss, hzs⟩ : ∃ z, xss ++ [ys] = z := ⟨_, rfl⟩; rw [hzs] at hg2; have HZS := hid hzs; obtain ⟨av, capv, ev, _, _, _⟩ := hg2.form; subst ev; have hg2' := hid hg2; have hgr2' := hid hgr2; have hvne : ∀ q, w2.heap.size ≤ q → Value.ownBlock (.slice a xss.length cap) ≠ some q := (fun q hq e => by have t1 := HGU.out.1 q e; omega); have hvnc : Value.ownBlock (.slice a xss.length cap) ≠ some c := (fun e => by have t1 := (G3.out.lt c e).1; omega); have hvnw : Value.ownBlock (.slice a xss.length cap) ≠ some w.heap.size := (fun e => by have t1 := (G3.out.lt _ e).1; omega); have H4 := hid (has2_grown H3.out hgr2 (hvne _ (Nat.le_refl _))); obtain ⟨n0, n1, nz, nf0, nf1⟩ := H4.out; clear hg2 hgr2 hzs))
      all_goals
        have RR := hid (has2_p1 (u := .slice av zss.length capv) H4.out)
        have KK := hid (has2_far (has2_grown (has2_grown K3.out.drew HG5.out (fun e => by injection e; omega)) hgr2'.out hvnw) (c := w2.heap.size) (o := 1) (by omega) (.slice av zss.length capv))
        have BX5 := (HG5.out.block w2.heap.size (by show _ < w3.heap.size; omega) (fun e => by injection e; omega)).trans (show w3.drew.heap[w2.heap.size]? = _ from BX3.out)
        have BX6 := (hgr2'.out.block w2.heap.size (by omega) (hvne _ (Nat.le_refl _)).symm).trans BX5
        have GG := hid (gown_box hg2'.out BX6 (by decide) (by decide) 1 (.slice av zss.length capv))
        have B6 : Below w1.heap.size w5 w6 := (Below.refl _ _).grown hgr2'.out (by omega) (fun q hq => (G3.out.lt q hq).1)
        have B7 : Below w1.heap.size w5 (w6.setCell ⟨w2.heap.size, 1, none⟩ (.slice av zss.length capv)) := B6.setCell (p := ⟨w2.heap.size, 1, none⟩) (by show w1.heap.size ≤ w2.heap.size; omega) _
        have CC := hid (HC5.out.below B7 (by omega))
        have WW := hid (gr_below (Cur.grown_trans (show w.grownBy w3.drew (some c) from ⟨W3.out.os, W3.out.tape, W3.out.output, W3.out.size, W3.out.block⟩) HG5.out) (B7.mono (by omega)))
        have HT := hid (show tot zss ≤ 24100 by rw [← HZS.out, tot_snoc, hyl]; omega)
        clear HU HC5 HG5 H3 H4 hg2' hgr2' BX5 BX6 B6 B7 m0 m1 mz mf0 mf1 n0 n1 nz nf0 nf1 p0 p1 pz pf0 pf1 hyl HD
        have hset := has2_set (u := .int .i64 (mn : Int)) (v := .slice av zss.length capv) KK.out
        obtain ⟨p0, p1, pz, _, _⟩ := RR.out
        obtain ⟨q0, q1, qz, _, _⟩ := KK.out
        go_wp2
        all_goals
          refine bodyPost_ret (v := .agg #[.int .i64 (mn : Int), .slice av zss.length capv]) (by simp [results, Try.results19, go_sem, hset.1, hset.2.1]) rfl ⟨(mn : Int), zss, av, capv, (vs ++ [.slice au mn capu]), s5, rfl, by omega, HT.out, ?_, ?_, ?_⟩
          · exact gown_mono (gown_set (gown_set GG.out (by omega) _) (by omega) _) (by omega)
          · exact CC.out.below (((Below.refl w.heap.size _).setCell (p := ⟨w.heap.size, 0, none⟩) (Nat.le_refl _) (.int .i64 (mn : Int))).setCell (p := ⟨w.heap.size, 1, none⟩) (Nat.le_refl _) (.slice av zss.length capv)) hcl
          · exact gr_below WW.out (((Below.refl w.heap.size _).setCell (p := ⟨w.heap.size, 0, none⟩) (Nat.le_refl _) (.int .i64 (mn : Int))).setCell (p := ⟨w.heap.size, 1, none⟩) (Nat.le_refl _) (.slice av zss.length capv))
    · by_cases t2 : t = 2
      · subst t2
        have e0 : ((2 : Int) == 0) = false := rfl
        have e1 : ((2 : Int) == 1) = false := rfl
        have e2 : ((2 : Int) == 2) = true := rfl
        by_cases hx0 : 0 < xss.length
        · by_cases hn0 : 0 < n
          · have hx0' : (0 : Int) < (xss.length : Int) := by omega
            have hr0 : (xss[0].length : Int) = n := HRW.out _ (List.getElem_mem hx0)
            have hvl : 0 < vs.length := by rw [G3.out.len]; exact hx0
            have hv0 : vs[0]? = some vs[0] := List.getElem?_eq_getElem hvl
            have hO := G3.out.own 0 hx0 vs[0] hv0
            rcases own_at hO with ⟨_, hnil⟩ | ⟨g, cap', hv, hl', hat⟩
            · exfalso
              rw [hnil] at hr0
              simp at hr0
              omega
            · obtain ⟨gh, caph, hva, _, _, hgl, hgs⟩ := gown_at G3.out hx0
              simp only [Value.slice.injEq] at hva
              obtain ⟨rfl, _, rfl⟩ := hva
              have d1 := (G3.out.cellAt 0 hx0).trans hv0
              rw [hv, Nat.zero_add] at d1
              have hgw := hat.lt
              have hgw2 : g < w2.heap.size := HGU.out.2 0 vs[0] hv0 g (by rw [hv]; rfl)
              obtain ⟨L, hL⟩ : ∃ L, xss[0].length = L := ⟨_, rfl⟩
              rw [hL] at d1
              have hL0 : 0 < L := by omega
              have hL0' : (0 : Int) < (L : Int) := by omega
              have CA := (C3.out.below ((Below.refl w3.heap.size w3).alloc (Nat.le_refl _) (.cells #[.int .i64 (-1), .int .i64 100, .int .i64 99] 3)) C3.out.lt).drew
              have PK := Pick.pick_any c sv l s3 _ CA w3.heap.size 3 [-1, 100, 99] (by simp) (by simp) (by omega) (fun j hj => (World.cell?_alloc_at _ _ _ _ rfl).trans (list_cellR [-1, 100, 99] j hj))
              rw [show ([-1, 100, 99] : List Int).length = 3 from rfl] at PK
              generalize Pick.pickF l [-1, 100, 99] s3 = r5 at PK
              obtain ⟨y, s5⟩ := r5
              have HPK := hid PK
              have HAT := hid hat
              have HV := hid hv
              have HV0 := hid hv0
              have HLL := hid hL
              clear PK CA hat hv hv0 hL hO hr0
              obtain ⟨p0, p1, pz, pf0, pf1⟩ := R3.out
              go_wp2_with fail
              go_region_law
                ((go_simp; go_at_call 22; go_must (with_reducible refine HPK.out.mono ?_); rintro e w4 ⟨rfl, hc4, hg4⟩; have hs4 : w3.heap.size + 1 ≤ w4.heap.size := (by have := hg4.size; simpa using this); have R4 := hid (has2_grown (R3.out.alloc (.cells #[.int .i64 (-1), .int .i64 100, .int .i64 99] 3)).drew hg4 (fun e => by injection e; omega)); obtain ⟨m0, m1, mz, mf0, mf1⟩ := R4.out; have d2 := cell_movedR d1 hg4 hgs (by omega); have A4 := hid (at_movedR (HAT.out.alloc (.cells #[.int .i64 (-1), .int .i64 100, .int .i64 99] 3)).drew hg4 (by omega)); obtain ⟨u4, k1⟩ : ∃ u, w4.cell? ⟨g, 0, none⟩ = some u := ⟨_, A4.out.cell 0 (by rw [HLL.out]; exact hL0)⟩; have k2 := A4.out.free 0; have HC4 := hid hc4; have HG4 := hid hg4; clear hc4 hg4))
              all_goals
                have HVG : (vs[0]'hvl).ownBlock = some g := by rw [HV.out]; rfl
                have G4 := gown_movedD (G3.out.alloc (.cells #[.int .i64 (-1), .int .i64 100, .int .i64 99] 3)).drew HG4.out (by omega)
                have GG0 := G4.rewrite eRI hx0 HV0.out (xss[0].set 0 y) (show Own (w4.setCell ⟨g, 0, none⟩ (.int .i64 y)) w1.heap.size eI vs[0] (xss[0].set 0 y) from by have h := (A4.out.set 0 y).own (lo := w1.heap.size) hl'; rw [List.length_set] at h; rw [HV.out]; exact h) (by rw [HVG]; exact A4.out.set_grown 0 (.int .i64 y))
                have HTT := hid (show tot (xss.set 0 (xss[0].set 0 y)) ≤ 24100 by rw [tot_set hx0 _ (by rw [List.length_set])]; omega)
                have hlz : (xss.set 0 (xss[0].set 0 y)).length = xss.length := by rw [List.length_set]
                obtain ⟨zss, hzs⟩ : ∃ z, xss.set 0 (xss[0].set 0 y) = z := ⟨_, rfl⟩
                rw [hzs] at GG0 HTT hlz
                have HLZ := hid hlz
                have GG := hid GG0
                have RR := hid (has2_far R4.out (c := g) (o := 0) (by omega) (.int .i64 y))
                have KK := hid (has2_far (has2_grown (K3.out.alloc (.cells #[.int .i64 (-1), .int .i64 100, .int .i64 99] 3)).drew HG4.out (fun e => by injection e; omega)) (c := g) (o := 0) (by omega) (.int .i64 y))
                have B7 : Below w1.heap.size w4 (w4.setCell ⟨g, 0, none⟩ (.int .i64 y)) := (Below.refl _ _).setCell (p := ⟨g, 0, none⟩) hl' _
                have CC := hid (HC4.out.below B7 (by omega))
                have W3a : w.grownBy ((w3.alloc (.cells #[.int .i64 (-1), .int .i64 100, .int .i64 99] 3)).drew) (some c) := gr_below W3.out (((Below.refl w.heap.size w3).alloc (by omega) _).drew)
                have WW := hid (gr_below (Cur.grown_trans W3a HG4.out) (B7.mono (by omega)))
                have hset := has2_set (u := .int .i64 n) (v := .slice (some ⟨gh, 0, none⟩) xss.length cap) KK.out
                clear GG0 G4 hzs hlz A4 HC4 HG4 R4 B7 W3a m0 m1 mz mf0 mf1 p0 p1 pz pf0 pf1 HPK HAT
                obtain ⟨p0, p1, pz, _, _⟩ := RR.out
                obtain ⟨q0, q1, qz, _, _⟩ := KK.out
                go_wp2
                refine bodyPost_ret (v := .agg #[.int .i64 n, .slice (some ⟨gh, 0, none⟩) xss.length cap]) (by simp [results, Try.results19, go_sem, hset.1, hset.2.1]) rfl ⟨n, zss, some ⟨gh, 0, none⟩, cap, vs, s5, by rw [HLZ.out], by omega, HTT.out, ?_, ?_, ?_⟩
                · have h := gown_mono (gown_set (gown_set GG.out (b := w.heap.size) (o := 0) (by omega) (.int .i64 n)) (b := w.heap.size) (o := 1) (by omega) (.slice (some ⟨gh, 0, none⟩) xss.length cap)) (lo' := w.heap.size) (by omega)
                  rw [HLZ.out]
                  exact h
                · exact CC.out.below (((Below.refl w.heap.size _).setCell (p := ⟨w.heap.size, 0, none⟩) (Nat.le_refl _) (.int .i64 n)).setCell (p := ⟨w.heap.size, 1, none⟩) (Nat.le_refl _) (.slice (some ⟨gh, 0, none⟩) xss.length cap)) hcl
                · exact gr_below WW.out (((Below.refl w.heap.size _).setCell (p := ⟨w.heap.size, 0, none⟩) (Nat.le_refl _) (.int .i64 n)).setCell (p := ⟨w.heap.size, 1, none⟩) (Nat.le_refl _) (.slice (some ⟨gh, 0, none⟩) xss.length cap))
          · have hx0' : (0 : Int) < (xss.length : Int) := by omega
            have hn0' : ¬ (0 : Int) < n := hn0
            have hset := has2_set (u := .int .i64 n) (v := .slice a xss.length cap) K3.out
            obtain ⟨p0, p1, pz, _, _⟩ := R3.out
            obtain ⟨q0, q1, qz, _, _⟩ := K3.out
            go_wp2
            refine bodyPost_ret (v := .agg #[.int .i64 n, .slice a xss.length cap]) (by simp [results, Try.results19, go_sem, hset.1, hset.2.1]) rfl ⟨n, xss, a, cap, vs, s3, rfl, by omega, by omega, ?_, ?_, ?_⟩
            · exact gown_mono (gown_set (gown_set G3.out (by omega) _) (by omega) _) (by omega)
            · exact C3.out.below (((Below.refl w.heap.size _).setCell (p := ⟨w.heap.size, 0, none⟩) (Nat.le_refl _) (.int .i64 n)).setCell (p := ⟨w.heap.size, 1, none⟩) (Nat.le_refl _) (.slice a xss.length cap)) hcl
            · exact gr_below W3.out (((Below.refl w.heap.size _).setCell (p := ⟨w.heap.size, 0, none⟩) (Nat.le_refl _) (.int .i64 n)).setCell (p := ⟨w.heap.size, 1, none⟩) (Nat.le_refl _) (.slice a xss.length cap))
        · have hx0' : ¬ (0 : Int) < (xss.length : Int) := by omega
          have hset := has2_set (u := .int .i64 n) (v := .slice a xss.length cap) K3.out
          obtain ⟨p0, p1, pz, _, _⟩ := R3.out
          obtain ⟨q0, q1, qz, _, _⟩ := K3.out
          go_wp2
          refine bodyPost_ret (v := .agg #[.int .i64 n, .slice a xss.length cap]) (by simp [results, Try.results19, go_sem, hset.1, hset.2.1]) rfl ⟨n, xss, a, cap, vs, s3, rfl, by omega, by omega, ?_, ?_, ?_⟩
          · exact gown_mono (gown_set (gown_set G3.out (by omega) _) (by omega) _) (by omega)
          · exact C3.out.below (((Below.refl w.heap.size _).setCell (p := ⟨w.heap.size, 0, none⟩) (Nat.le_refl _) (.int .i64 n)).setCell (p := ⟨w.heap.size, 1, none⟩) (Nat.le_refl _) (.slice a xss.length cap)) hcl
          · exact gr_below W3.out (((Below.refl w.heap.size _).setCell (p := ⟨w.heap.size, 0, none⟩) (Nat.le_refl _) (.int .i64 n)).setCell (p := ⟨w.heap.size, 1, none⟩) (Nat.le_refl _) (.slice a xss.length cap))
      · have e0 : (t == 0) = false := by simp [t0]
        have e1 : (t == 1) = false := by simp [t1]
        have e2 : (t == 2) = false := by simp [t2]
        have hset := has2_set (u := .int .i64 n) (v := .slice a xss.length cap) K3.out
        obtain ⟨p0, p1, pz, _, _⟩ := R3.out
        obtain ⟨q0, q1, qz, _, _⟩ := K3.out
        go_wp2
        refine bodyPost_ret (v := .agg #[.int .i64 n, .slice a xss.length cap]) (by simp [results, Try.results19, go_sem, hset.1, hset.2.1]) rfl ⟨n, xss, a, cap, vs, s3, rfl, by omega, by omega, ?_, ?_, ?_⟩
        · exact gown_mono (gown_set (gown_set G3.out (by omega) _) (by omega) _) (by omega)
        · exact C3.out.below (((Below.refl w.heap.size _).setCell (p := ⟨w.heap.size, 0, none⟩) (Nat.le_refl _) (.int .i64 n)).setCell (p := ⟨w.heap.size, 1, none⟩) (Nat.le_refl _) (.slice a xss.length cap)) hcl
        · exact gr_below W3.out (((Below.refl w.heap.size _).setCell (p := ⟨w.heap.size, 0, none⟩) (Nat.le_refl _) (.int .i64 n)).setCell (p := ⟨w.heap.size, 1, none⟩) (Nat.le_refl _) (.slice a xss.length cap))
end Go.Proofs.Ytikpgkholhokoaa.DrawRel

namespace Go.Proofs.Ytikpgkholhokoaa.DrawPrj
open Go.RowKit
open Go.Proofs.Ytikpgkholhokoaa.Num Go.Proofs.Ytikpgkholhokoaa.IntRow Go.Proofs.Ytikpgkholhokoaa.IntLaw Go.Proofs.Ytikpgkholhokoaa.Grid Go.Proofs.Ytikpgkholhokoaa.GridMore Go.Proofs.Ytikpgkholhokoaa.GridLaw Go.Proofs.Ytikpgkholhokoaa.GridLaw2 Go.Proofs.Ytikpgkholhokoaa.GridApp Go.Proofs.Ytikpgkholhokoaa.GridHead Go.Proofs.Ytikpgkholhokoaa.Keep Go.Proofs.Ytikpgkholhokoaa.Kept Go.Proofs.Ytikpgkholhokoaa.Cells Go.Proofs.Ytikpgkholhokoaa.RelKit Go.Proofs.Ytikpgkholhokoaa.Cur Go.Proofs.Ytikpgkholhokoaa.Draw Go.Proofs.Ytikpgkholhokoaa.DrawR Go.Proofs.Ytikpgkholhokoaa.DrawRel
set_option linter.unusedVariables false

/-- What the draw leaves: a relation and columns that may be read. -/
def PrjAt (w : World) (e : Ending) (w' : World) : Prop :=
  ∃ (n : Int) (xss : List (List Int)) (a : Option Addr) (cap : Nat) (cs : List Int) (b : Option Addr) (capb : Nat), e = .returned (.tuple #[.agg #[.int .i64 n, .slice a xss.length cap], .slice b cs.length capb]) ∧ tot xss ≤ 24100 ∧ cs.length ≤ 3 ∧ GRd w' w'.heap.size a xss ∧ Rd w' w'.heap.size b cs ∧ Below w.heap.size w w'
theorem list_cellP (zs : List Int) (j : Nat) (hj : j < zs.length) : ((zs.map (Value.int .i64)).toArray)[j]? = some (.int .i64 (zs.getD j 0)) := by
  simp [List.getD, hj]
theorem own_litP (w : World) (base : Nat) (hb : base ≤ w.heap.size) : Own (w.alloc (.cells #[] 3)) base 3 (.slice (some ⟨w.heap.size, 0, none⟩) 0 0) [] :=
  World.ownsRow_made w #[] 0 hb (by decide) (by decide)

set_option maxRecDepth 100000 in
set_option maxHeartbeats 4000000 in
theorem draw_prj (w : World) (sv : Value) (l : List UInt8) (hl : l.length ≤ 1048576) (hc : Cur.Code w w.heap.size sv l) :
    Calls Try.prog 6 #[sv] w fun e w' => PrjAt w e w' := by
  have K0 := hid (has2_new w (.int .i64 0) (.slice none 0 0) 26)
  have B0 : Below w.heap.size w (w.alloc (.cells #[.int .i64 0, .slice none 0 0] 26)) := (Below.refl w.heap.size w).alloc (Nat.le_refl _) _
  have HN := hid (new_any _ sv l hl ((hc.below B0 (Nat.le_refl _)).higher B0.size))
  have HB0 := hid B0
  have hs0 : (w.alloc (.cells #[.int .i64 0, .slice none 0 0] 26)).heap.size = w.heap.size + 1 := by simp
  obtain ⟨i0, hi, hz0, hz1, hz2⟩ := info_parts IntLaw.info
  clear hc B0
  go_enter Try.func6, Try.ntmps6
  go_wp2_with fail
  refine HN.out.mono ?_
  rintro e w1 ⟨c, rfl, hcw, hc1, hb1⟩
  rw [hs0] at hcw
  have hs1 := hb1.size
  rw [hs0] at hs1
  have K1 := hid (K0.out.below hb1)
  have B1 := hid (HB0.out.trans (hb1.mono HB0.out.size))
  generalize ((0 : Nat), numH l (min 4000 l.length)) = s1 at hc1
  have HA := hid (any_rel c sv l s1 w1 hc1)
  have hcl1 := hc1.lt
  clear hc1 hb1 HN K0 HB0 hs0
  go_wp2_with fail
  refine HA.out.mono ?_
  rintro e w2 ⟨n, xss, a, cap, vs, s2, rfl, hn, htt, hgo, hc2, hg2⟩
  have hs2 := hg2.size
  have hb12 := grown_below (B := w.heap.size) hg2 (by omega) (by omega)
  have K2 := hid (((has2_grown K1.out hg2 (fun e => by injection e; omega)).alloc (.cells #[.int .i64 n, .slice a xss.length cap] 26)).alloc (.cells #[] 3))
  have R2 := hid ((has2_new w2 (.int .i64 n) (.slice a xss.length cap) 26).alloc (.cells #[] 3))
  have BB := ((Below.refl w2.heap.size w2).alloc (Nat.le_refl _) (.cells #[.int .i64 n, .slice a xss.length cap] 26)).alloc (by simp) (.cells #[] 3)
  have C2 := hid (hc2.below BB hc2.lt)
  have G2 := hid (gown_rd hgo)
  have G2b := hid (G2.out.below BB)
  have B2 := hid ((B1.out.trans (hb12.mono (by omega))).trans (BB.mono (by omega)))
  have O2 := own_litP (w2.alloc (.cells #[.int .i64 n, .slice a xss.length cap] 26)) (w2.heap.size + 1) (by simp)
  simp only [World.size_alloc] at O2
  have HO2 := hid O2
  have hwl : ((w2.alloc (.cells #[.int .i64 n, .slice a xss.length cap] 26)).alloc (.cells #[] 3)).heap.size = w2.heap.size + 2 := by simp
  have hc2l := hc2.lt
  have HG0 := hid hgo
  have HB := hid (below_any c 4 sv l s2 _ C2.out (by omega))
  have hbd := belowF_bounds l 4 s2 (by omega)
  generalize belowF l 4 s2 = r at HB hbd
  obtain ⟨z, s3⟩ := r
  simp only at *
  obtain ⟨j0, rfl⟩ := Int.eq_ofNat_of_zero_le hbd.1
  have hj0 : j0 ≤ 3 := by omega
  have HGA := hid (hgo.below' BB)
  have HGU := hid (gown_under hgo)
  clear hgo hc2 hg2 hb12 HA K1 B1 BB O2 hbd G2 HG0 G2b
  go_wp2_with fail
  refine HB.out.mono ?_
  rintro e w3 ⟨rfl, hc3, hg3⟩
  have hs3 := hg3.size
  rw [hwl] at hs3
  have K3 := hid (has2_grown K2.out hg3 (fun e => by injection e; omega))
  have R3 := hid (has2_grown R2.out hg3 (fun e => by injection e; omega))
  have G3 := hid (gown_movedD HGA.out hg3 (by omega))
  have O3 := hid (own_moved HO2.out hg3 (by omega))
  have C3 := hid hc3
  have B3 := hid (B2.out.trans (grown_below hg3 (by omega) (by omega)))
  clear hc3 hg3 HB K2 R2 C2 B2 HO2 hwl HGA
  go_wp2
  go_loopw [6, 7] (fun v i wr => ∃ (cs : List Int) (j : Nat) (s4 : St), i = .int .i64 (j : Nat) ∧ cs.length + j ≤ 3 ∧ Hid (Own wr (w2.heap.size + 1) 3 v cs) ∧ Hid (Cu wr c sv l s4) ∧ Hid (Has2 wr w.heap.size (.int .i64 0) (.slice none 0 0)) ∧ Hid (Has2 wr w2.heap.size (.int .i64 n) (.slice a xss.length cap)) ∧ Hid (GOwn wr w1.heap.size eR eI (.slice a xss.length cap) vs xss) ∧ Hid (Below w.heap.size w wr) ∧ w2.heap.size + 2 ≤ wr.heap.size) (fun _ i _ => (intOf i).toNat)
  case atStart => exact ⟨[], j0, s3, rfl, by simpa using hj0, O3, C3, K3, R3, G3, B3, hs3⟩
  case round =>
    obtain ⟨cs, j, s4, rfl, hlj, hown, hcu, hk, hr, hg, hb, hsz⟩ := hrel
    clear O3 C3 K3 R3 G3 B3
    by_cases hlt : 0 < j
    · have hlt' : (0 : Int) < (j : Int) := by omega
      have hwj : IntKind.i64.wrap ((j : Int) - 1) = (j : Int) - 1 := IntWalk.i64_in _ (by omega)
      have HJM := hid (show (j : Int) - 1 = ((j - 1 : Nat) : Int) by omega)
      by_cases hmx0 : 1 < n
      · have hmx : 1 < n := hmx0
        have HB0 := below_any c n sv l s4 wr hcu.out (by omega)
        generalize belowF l n s4 = r4 at HB0
        obtain ⟨z4, s5⟩ := r4
        simp only at HB0
        have HB := hid HB0
        obtain ⟨p0, p1, pz, _, _⟩ := hr.out
        clear HB0
        go_wp2_with fail
        with_reducible refine HB.out.mono ?_
        rintro e w5 ⟨rfl, hc5, hg5⟩
        have hs5 := hg5.size
        have K5 := hid (has2_grown hk.out hg5 (fun e => by injection e; omega))
        have R5 := hid (has2_grown hr.out hg5 (fun e => by injection e; omega))
        have G5 := hid (gown_movedD hg.out hg5 (by omega))
        have O5 := hid (own_moved hown.out hg5 (by omega))
        have C5 := hid hc5
        have B5 := hid (hb.out.trans (grown_below hg5 (by omega) (by omega)))
        have HVL := hid O5.out.lt
        have hl5 : cs.length ≤ 1000 := by omega
        clear hc5 hg5 HB hk hr hg hown hcu hb p0 p1 pz
        go_wp2_with (at_builtin; refine append_int rfl _ _ 27 rfl (w2.heap.size + 1) 3 i0 Try.underlying27 hi hz0 hz1 hz2 w5 w5 _ cs z4 O5.out (by rfl) (Below.refl _ _) (by omega) _ ?c1 (by rfl) (by omega) ?_)
        case c1 => rfl
        intro v1 w6 hown1 hbel1 hsz1 hgr
        have HO := hid hown1
        have K6 := hid (has2_grown K5.out hgr (fun e => by have := (HVL.out _ e).1; omega))
        have R6 := hid (has2_grown R5.out hgr (fun e => by have := (HVL.out _ e).1; omega))
        have G6 := hid (gown_turned G5.out (Turn.of_grown (lo := w2.heap.size) (hi := w5.heap.size) hgr (fun k hk => ⟨by have := (HVL.out k hk).1; omega, (HVL.out k hk).2⟩)) (.inr HGU.out))
        have C6 := hid (C5.out.below hbel1 (by omega))
        have B6 := hid (B5.out.trans (hbel1.mono (by omega)))
        have hs6 := hgr.size
        have HL6 := hid (show (cs ++ [z4]).length + (j - 1) ≤ 3 by simp; omega)
        clear hown1 hbel1 hgr K5 R5 G5 C5 B5 O5 HVL
        go_wp2
        go_roundw
        case rel => exact ⟨cs ++ [z4], j - 1, s5, by rw [HJM.out], HL6.out, HO, C6, K6, R6, G6, B6, by omega⟩
        case measure => simp [intOf]; omega
      · have hmx : ¬ 1 < n := hmx0
        have HB0 := below_any c 1 sv l s4 wr hcu.out (by omega)
        generalize belowF l 1 s4 = r4 at HB0
        obtain ⟨z4, s5⟩ := r4
        simp only at HB0
        have HB := hid HB0
        obtain ⟨p0, p1, pz, _, _⟩ := hr.out
        clear HB0
        go_wp2_with fail
        with_reducible refine HB.out.mono ?_
        rintro e w5 ⟨rfl, hc5, hg5⟩
        have hs5 := hg5.size
        have K5 := hid (has2_grown hk.out hg5 (fun e => by injection e; omega))
        have R5 := hid (has2_grown hr.out hg5 (fun e => by injection e; omega))
        have G5 := hid (gown_movedD hg.out hg5 (by omega))
        have O5 := hid (own_moved hown.out hg5 (by omega))
        have C5 := hid hc5
        have B5 := hid (hb.out.trans (grown_below hg5 (by omega) (by omega)))
        have HVL := hid O5.out.lt
        have hl5 : cs.length ≤ 1000 := by omega
        clear hc5 hg5 HB hk hr hg hown hcu hb p0 p1 pz
        go_wp2_with (at_builtin; refine append_int rfl _ _ 27 rfl (w2.heap.size + 1) 3 i0 Try.underlying27 hi hz0 hz1 hz2 w5 w5 _ cs z4 O5.out (by rfl) (Below.refl _ _) (by omega) _ ?c1 (by rfl) (by omega) ?_)
        case c1 => rfl
        intro v1 w6 hown1 hbel1 hsz1 hgr
        have HO := hid hown1
        have K6 := hid (has2_grown K5.out hgr (fun e => by have := (HVL.out _ e).1; omega))
        have R6 := hid (has2_grown R5.out hgr (fun e => by have := (HVL.out _ e).1; omega))
        have G6 := hid (gown_turned G5.out (Turn.of_grown (lo := w2.heap.size) (hi := w5.heap.size) hgr (fun k hk => ⟨by have := (HVL.out k hk).1; omega, (HVL.out k hk).2⟩)) (.inr HGU.out))
        have C6 := hid (C5.out.below hbel1 (by omega))
        have B6 := hid (B5.out.trans (hbel1.mono (by omega)))
        have hs6 := hgr.size
        have HL6 := hid (show (cs ++ [z4]).length + (j - 1) ≤ 3 by simp; omega)
        clear hown1 hbel1 hgr K5 R5 G5 C5 B5 O5 HVL
        go_wp2
        go_roundw
        case rel => exact ⟨cs ++ [z4], j - 1, s5, by rw [HJM.out], HL6.out, HO, C6, K6, R6, G6, B6, by omega⟩
        case measure => simp [intOf]; omega
    · obtain rfl : j = 0 := by omega
      have hnlt : ¬ (0 : Int) < ((0 : Nat) : Int) := by omega
      obtain ⟨av, capv, hav, _, _, _⟩ := hown.out.form
      subst hav
      have hcs3 : cs.length ≤ 3 := by omega
      by_cases h0 : 0 < cs.length
      · have h0' : (0 : Int) < (cs.length : Int) := by omega
        have HO0 := once_any c 10 sv l s4 wr hcu.out (by omega)
        generalize belowF l 10 s4 = r4 at HO0
        obtain ⟨z4, s5⟩ := r4
        simp only at HO0
        obtain ⟨b4, hb4⟩ : ∃ b4 : Bool, (z4 == 0) = b4 := ⟨_, rfl⟩
        rw [hb4] at HO0
        have HO := hid HO0
        clear HO0 hb4
        go_wp2_with fail
        refine HO.out.mono ?_
        rintro e w5 ⟨rfl, hc5, hg5⟩
        have hs5 := hg5.size
        have K5 := hid (has2_grown hk.out hg5 (fun e => by injection e; omega))
        have R5 := hid (has2_grown hr.out hg5 (fun e => by injection e; omega))
        have G5 := hid (gown_movedD hg.out hg5 (by omega))
        have O5 := hid (own_moved hown.out hg5 (by omega))
        have C5 := hid hc5
        have B5 := hid (hb.out.trans (grown_below hg5 (by omega) (by omega)))
        clear hc5 hg5 HO hk hr hg hown hcu hb
        cases b4 with
        | false =>
          have hset := has2_set (u := .int .i64 n) (v := .slice a xss.length cap) K5.out
          have hkz := K5.out.2.2.1
          obtain ⟨p0, p1, pz, _, _⟩ := R5.out
          obtain ⟨q0, q1, qz, _, _⟩ := K5.out
          go_wp2
          have BS : Below w.heap.size w5 _ := ((Below.refl w.heap.size w5).setCell (p := ⟨w.heap.size, 0, none⟩) (Nat.le_refl _) (.int .i64 n)).setCell (p := ⟨w.heap.size, 1, none⟩) (Nat.le_refl _) (.slice a xss.length cap)
          refine bodyPost_ret (v := .tuple #[.agg #[.int .i64 n, .slice a xss.length cap], .slice av cs.length capv]) (by simp [results, Try.results6, go_sem, hset.1, hset.2.1]) rfl ⟨n, xss, a, cap, cs, av, capv, rfl, htt, hcs3, ?_, ?_, B5.out.trans BS⟩
          · exact gown_rd (gown_set (gown_set G5.out (by omega) _) (by omega) _)
          · exact own_rd (own_turned O5.out (Turn.of_grown (lo := w.heap.size) (hi := w.heap.size + 1) (World.grownBy.trans (Cur.grown_set w5 w.heap.size 0 (.int .i64 n)) (Cur.grown_set _ w.heap.size 1 (.slice a xss.length cap))) (fun k hk => by injection hk; omega)) (.inl (by omega)))
        | true =>
          have CA := C5.out.below ((Below.refl w5.heap.size w5).alloc (Nat.le_refl _) (.cells #[.int .i64 (-1), .int .i64 n] 3)) C5.out.lt
          have PK := Pick.pick_any c sv l s5 _ CA w5.heap.size 2 [-1, n] (by simp) (by simp) (by omega) (fun j hj => (World.cell?_alloc_at _ _ _ _ rfl).trans (list_cellP [-1, n] j hj))
          rw [show ([-1, n] : List Int).length = 2 from rfl] at PK
          generalize Pick.pickF l [-1, n] s5 = r6 at PK
          obtain ⟨y, s6⟩ := r6
          have HPK := hid PK
          have KA := hid (K5.out.alloc (.cells #[.int .i64 (-1), .int .i64 n] 3))
          have RA := hid (R5.out.alloc (.cells #[.int .i64 (-1), .int .i64 n] 3))
          have GA := hid (G5.out.alloc (.cells #[.int .i64 (-1), .int .i64 n] 3))
          have OA := hid (O5.out.alloc (.cells #[.int .i64 (-1), .int .i64 n] 3))
          have BA := hid (B5.out.alloc (by omega) (.cells #[.int .i64 (-1), .int .i64 n] 3))
          obtain ⟨p0, p1, pz, _, _⟩ := R5.out
          clear PK CA K5 G5 C5 B5 O5
          go_wp2_with fail
          with_reducible refine HPK.out.mono ?_
          rintro e w6 ⟨rfl, hc6, hg6⟩
          have hs6 := hg6.size
          simp only [World.size_alloc] at hs6
          have K6 := hid (has2_grown KA.out hg6 (fun e => by injection e; omega))
          have R6 := hid (has2_grown RA.out hg6 (fun e => by injection e; omega))
          have G6 := hid (gown_movedD GA.out hg6 (by omega))
          have O6 := own_moved OA.out hg6 (by omega)
          have B6 := hid (BA.out.trans (grown_below hg6 (by simp; omega) (by omega)))
          clear hc6 hg6 HPK KA RA GA OA BA p0 p1 pz R5
          rcases own_at O6 with ⟨_, hnil⟩ | ⟨g, cap', hv, hgl, hat⟩
          · rw [hnil] at h0; simp at h0
          · simp only [Value.slice.injEq] at hv
            obtain ⟨rfl, _, rfl⟩ := hv
            obtain ⟨u, k1⟩ : ∃ u, w6.cell? ⟨g, 0, none⟩ = some u := ⟨_, hat.cell 0 h0⟩
            have k2 := hat.free 0
            have hgw := hat.lt
            have A7 := hid (show Own (w6.setCell ⟨g, 0, none⟩ (.int .i64 y)) (w2.heap.size + 1) 3 (.slice (some ⟨g, 0, none⟩) (cs.set 0 y).length capv) (cs.set 0 y) from (hat.set 0 y).own hgl)
            have BS7 : Below g w6 (w6.setCell ⟨g, 0, none⟩ (.int .i64 y)) := (Below.refl _ _).setCell (p := ⟨g, 0, none⟩) (Nat.le_refl _) _
            have K7 := hid (has2_far K6.out (c := g) (o := 0) (by omega) (.int .i64 y))
            have R7 := hid (has2_far R6.out (c := g) (o := 0) (by omega) (.int .i64 y))
            have G7 := hid (gown_turned G6.out (Turn.of_grown (lo := w2.heap.size) (hi := g + 1) (Cur.grown_set w6 g 0 (.int .i64 y)) (fun k hk => by injection hk; omega)) (.inr HGU.out))
            have B7 := hid (B6.out.trans (BS7.mono (by omega)))
            have hs7 : (w6.setCell ⟨g, 0, none⟩ (.int .i64 y)).heap.size = w6.heap.size := by simp
            clear hat O6 K6 G6 B6 BS7
            obtain ⟨p0, p1, pz, _, _⟩ := R6.out
            have hset := has2_set (u := .int .i64 n) (v := .slice a xss.length cap) K7.out
            have hkz := K7.out.2.2.1
            obtain ⟨r0, r1, rz, _, _⟩ := R7.out
            obtain ⟨q0, q1, qz, _, _⟩ := K7.out
            go_wp2
            have BS : Below w.heap.size (w6.setCell ⟨g, 0, none⟩ (.int .i64 y)) _ := ((Below.refl w.heap.size (w6.setCell ⟨g, 0, none⟩ (.int .i64 y))).setCell (p := ⟨w.heap.size, 0, none⟩) (Nat.le_refl _) (.int .i64 n)).setCell (p := ⟨w.heap.size, 1, none⟩) (Nat.le_refl _) (.slice a xss.length cap)
            refine bodyPost_ret (v := .tuple #[.agg #[.int .i64 n, .slice a xss.length cap], .slice (some ⟨g, 0, none⟩) cs.length capv]) (by simp [results, Try.results6, go_sem, hset.1, hset.2.1]) rfl ⟨n, xss, a, cap, (cs.set 0 y), (some ⟨g, 0, none⟩), capv, by rw [List.length_set], htt, by rw [List.length_set]; exact hcs3, ?_, ?_, B7.out.trans BS⟩
            · exact gown_rd (gown_set (gown_set G7.out (by omega) _) (by omega) _)
            · exact own_rd (own_turned A7.out (Turn.of_grown (lo := w.heap.size) (hi := w.heap.size + 1) (World.grownBy.trans (Cur.grown_set (w6.setCell ⟨g, 0, none⟩ (.int .i64 y)) w.heap.size 0 (.int .i64 n)) (Cur.grown_set _ w.heap.size 1 (.slice a xss.length cap))) (fun k hk => by injection hk; omega)) (.inl (by omega)))
      · obtain rfl : cs = [] := List.eq_nil_of_length_eq_zero (by omega)
        have h0' : ¬ (0 : Int) < ((([] : List Int).length : Nat) : Int) := by simp
        have hset := has2_set (u := .int .i64 n) (v := .slice a xss.length cap) hk.out
        have hkz := hk.out.2.2.1
        obtain ⟨p0, p1, pz, _, _⟩ := hr.out
        obtain ⟨q0, q1, qz, _, _⟩ := hk.out
        go_wp2
        have BS : Below w.heap.size wr _ := ((Below.refl w.heap.size wr).setCell (p := ⟨w.heap.size, 0, none⟩) (Nat.le_refl _) (.int .i64 n)).setCell (p := ⟨w.heap.size, 1, none⟩) (Nat.le_refl _) (.slice a xss.length cap)
        refine bodyPost_ret (v := .tuple #[.agg #[.int .i64 n, .slice a xss.length cap], .slice av 0 capv]) (by simp [results, Try.results6, go_sem, hset.1, hset.2.1]) rfl ⟨n, xss, a, cap, [], av, capv, rfl, htt, hcs3, ?_, ?_, hb.out.trans BS⟩
        · exact gown_rd (gown_set (gown_set hg.out (by omega) _) (by omega) _)
        · exact own_rd (own_turned hown.out (Turn.of_grown (lo := w.heap.size) (hi := w.heap.size + 1) (World.grownBy.trans (Cur.grown_set wr w.heap.size 0 (.int .i64 n)) (Cur.grown_set _ w.heap.size 1 (.slice a xss.length cap))) (fun k hk => by injection hk; omega)) (.inl (by omega)))
end Go.Proofs.Ytikpgkholhokoaa.DrawPrj
