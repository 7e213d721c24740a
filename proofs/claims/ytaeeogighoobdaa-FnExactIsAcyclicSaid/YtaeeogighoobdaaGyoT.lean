/- The model's whole GYO reduction (l10Run). -/
import Derived.Test.YtaeeogighoobdaaGyoS
import Derived.Test.YtaeeogighoobdaaGyoR
namespace Go.Proofs.Ytaeeogighoobdaa.GyoT
open Go.RowKit
open Go.Proofs.Ytaeeogighoobdaa.Num Go.Proofs.Ytaeeogighoobdaa.IntRow Go.Proofs.Ytaeeogighoobdaa.IntLaw Go.Proofs.Ytaeeogighoobdaa.Rdr Go.Proofs.Ytaeeogighoobdaa.Dat Go.Proofs.Ytaeeogighoobdaa.HasL Go.Proofs.Ytaeeogighoobdaa.VarIn Go.Proofs.Ytaeeogighoobdaa.SetV Go.Proofs.Ytaeeogighoobdaa.SetJ Go.Proofs.Ytaeeogighoobdaa.QryP Go.Proofs.Ytaeeogighoobdaa.Gyo Go.Proofs.Ytaeeogighoobdaa.GyoI Go.Proofs.Ytaeeogighoobdaa.GyoR Go.Proofs.Ytaeeogighoobdaa.GyoS
set_option linter.unusedVariables false

theorem hasl_grown {w w' : World} {b : Nat} {vs : List Value} {row : Option Nat} (h : HasL w b vs) (hg : w.grownBy w' row) (hr : row ≠ some b) : HasL w' b vs := by
  have hb := hg.block b h.1 (fun e => hr e.symm)
  exact ⟨Nat.lt_of_lt_of_le h.1 hg.size, fun i hi => ⟨(World.cell?_of_block (w := w) (a := ⟨b, i, none⟩) hb).trans (h.2 i hi).1, by
    rw [← (h.2 i hi).2]
    simp only [World.frozen?, hb]⟩⟩
theorem at_grown {w w' : World} {g : Nat} {e : TypeId} {cap : Nat} {xs : List Int} {row : Option Nat} (h : At w g e cap xs) (hg : w.grownBy w' row) (hr : row ≠ some g) : At w' g e cap xs :=
  Own.grown (lo := g) h hg (fun k hk => by
    have e1 : g = k := by simpa [Value.ownBlock] using hk
    subst e1; exact hr)
theorem earK_ok {us : List AtomD} {L : List Bool} {i k : Nat} (h : earK us L i = some k) : lv L i = true := by
  have := List.find?_some h
  unfold okE at this
  simp only [Bool.and_eq_true] at this
  exact this.1.1
theorem ear_lt {us : List AtomD} {L : List Bool} {i : Nat} (h : ear us L = some i) : i < us.length := List.mem_range.1 (List.mem_of_find?_eq_some h)
theorem stp_of {us : List AtomD} {S : St} {i k : Nat} (h1 : ear us S.left = some i) (h2 : earK us S.left i = some k) : stp us S = some ⟨S.out ++ [(i : Int)], S.up.set i (k : Int), S.left.set i false⟩ := by
  rw [stp, h1]
  simp only [h2]
theorem stp_no {us : List AtomD} {S : St} (h1 : ear us S.left = none) : stp us S = none := by rw [stp, h1]
def fillU {α : Type} (a b : α) (n k : Nat) : List α := List.replicate k a ++ List.replicate (n - k) b
theorem fillU_len {α : Type} (a b : α) {n k : Nat} (h : k ≤ n) : (fillU a b n k).length = n := by simp [fillU]; omega
theorem fillU_zero {α : Type} (a b : α) (n : Nat) : fillU a b n 0 = List.replicate n b := by simp [fillU]
theorem fillU_all {α : Type} (a b : α) (n : Nat) : fillU a b n n = List.replicate n a := by simp [fillU]
theorem fillU_step {α : Type} (a b : α) {n k : Nat} (h : k < n) : (fillU a b n k).set k a = fillU a b n (k + 1) := by
  unfold fillU
  rw [List.set_append_right _ _ (by simp), List.length_replicate, Nat.sub_self, show n - k = (n - (k + 1)) + 1 by omega, List.replicate_succ, List.set_cons_zero, List.replicate_succ', List.append_assoc]
  rfl
theorem infoB : (Try.prog.info? 4).map (fun i => (i.zero, i.size, i.bytes)) = some (some (.bool false), 1, 1) := by kernel_rfl
theorem made_b (n : Nat) : (madeCells (Value.cells (.bool false)) (n * 1)) = (bc (List.replicate n false)).toArray := by
  refine Array.ext (by simp [madeCells, bc]) (fun i h1 h2 => by simp [madeCells, bc, Value.cells, Nat.mod_one])

theorem set_grown (w : World) (g j : Nat) (u : Value) : w.grownBy (w.setCell ⟨g, j, none⟩ u) (some g) := by
  have h := (Below.refl 0 w).setCell (p := ⟨g, j, none⟩) (Nat.zero_le _) u
  exact ⟨h.os, h.tape, h.output, h.size, fun k hk hne => Below.heap_setCell _ _ _ _ (by
    show k ≠ g
    exact fun e => hne (by rw [e]))⟩
/-- What the walk holds: the box, up, left; the removed ones lie elsewhere. -/
structure Rs (W w : World) (n : Nat) (bx : List Value) (v : Value) (out up : List Int) (L : List Bool) : Prop where
  box : HasL W w.heap.size bx
  ow : Own W (w.heap.size + 1) 3 v out
  aw : ∀ k, v.ownBlock = some k → k = w.heap.size + 1 ∨ w.heap.size + 4 ≤ k
  up : At W (w.heap.size + 2) 3 n up
  lf : HasL W (w.heap.size + 3) (bc L)
  bel : Below w.heap.size w W
  sz : w.heap.size + 4 ≤ W.heap.size
theorem Rs.grown {W W' w : World} {n : Nat} {bx : List Value} {v : Value} {out up : List Int} {L : List Bool} (h : Rs W w n bx v out up L) (hb : Below W.heap.size W W') : Rs W' w n bx v out up L :=
  ⟨h.box.below hb, h.ow.below' hb, h.aw, h.up.below hb h.up.lt, h.lf.below hb, h.bel.trans (hb.mono h.bel.size), Nat.le_trans h.sz hb.size⟩
theorem Rs.put_up {W w : World} {n : Nat} {bx : List Value} {v : Value} {out up : List Int} {L : List Bool} (h : Rs W w n bx v out up L) (i : Nat) (z : Int) : Rs (W.setCell ⟨w.heap.size + 2, i, none⟩ (.int .i64 z)) w n bx v out (up.set i z) L :=
  ⟨h.box.far (by omega) _, h.ow.grown (set_grown _ _ _ _) (fun k hk => by have := h.aw k hk; simp; omega), h.aw, h.up.set i z, h.lf.far (by omega) _, h.bel.setCell (by show w.heap.size ≤ w.heap.size + 2; omega) _, by simpa using h.sz⟩
theorem Rs.put_lf {W w : World} {n : Nat} {bx : List Value} {v : Value} {out up : List Int} {L : List Bool} (h : Rs W w n bx v out up L) (i : Nat) (b : Bool) : Rs (W.setCell ⟨w.heap.size + 3, i, none⟩ (.bool b)) w n bx v out up (L.set i b) :=
  ⟨h.box.far (by omega) _, h.ow.grown (set_grown _ _ _ _) (fun k hk => by have := h.aw k hk; simp; omega), h.aw, h.up.far (p := ⟨w.heap.size + 3, i, none⟩) (by show w.heap.size + 2 ≠ w.heap.size + 3; omega) _, by rw [← bc_set]; exact h.lf.put i _, h.bel.setCell (by show w.heap.size ≤ w.heap.size + 3; omega) _, by simpa using h.sz⟩
theorem Rs.app {W W' w : World} {n : Nat} {bx : List Value} {v v' : Value} {out out' up : List Int} {L : List Bool} (h : Rs W w n bx v out up L) (ho : Own W' (w.heap.size + 1) 3 v' out') (hg : W.grownBy W' v.ownBlock) (ha : ∀ k, v'.ownBlock = some k → v.ownBlock = some k ∨ W.heap.size < k) : Rs W' w n bx v' out' up L :=
  ⟨hasl_grown h.box hg (fun e => by have := h.aw _ e; omega), ho, (fun k hk => by
    rcases ha k hk with h1 | h1
    · exact h.aw k h1
    · have := h.sz; omega), at_grown h.up hg (fun e => by have := h.aw _ e; omega), hasl_grown h.lf hg (fun e => by have := h.aw _ e; omega), h.bel.grown hg h.bel.size (fun k hk => by have := h.aw k hk; omega), Nat.le_trans h.sz hg.size⟩

def Run (us : List AtomD) (w : World) (e : Ending) (w' : World) : Prop :=
  ∃ av cap g, e = .returned (.tuple #[.slice av (gyo us).out.length cap, .slice (some ⟨g, 0, none⟩) us.length us.length]) ∧ Own w' w.heap.size 3 (.slice av (gyo us).out.length cap) (gyo us).out ∧ At w' g 3 us.length (gyo us).up ∧ w.heap.size ≤ g ∧ Below w.heap.size w w'

set_option maxRecDepth 100000 in
set_option maxHeartbeats 4000000 in
theorem spec_run (cs : List Value) (x : QueryD) (lo hi n5 : Nat) (w : World) (hs : szQ x ≤ 1048576) (h : rQuery w lo hi cs x) (hh : hi ≤ w.heap.size) (hn : x.1 = (n5 : Int)) (h5 : n5 ≤ 5) (hva : ∀ a ∈ x.2.1, ∀ z ∈ a.2, 0 ≤ z ∧ z < (n5 : Int)) :
    Calls Try.prog 39 #[.agg cs.toArray] w (Run x.2.1 w) := by
  obtain ⟨i0, hi0, hz0, hz1, hz2⟩ := info_parts IntLaw.info
  obtain ⟨ib, hb0, hbz0, hbz1, hbz2⟩ := info_parts infoB
  obtain ⟨xv, us, xo⟩ := x
  dsimp only at hn hva
  have hqo := query_open h
  dsimp only at hqo
  obtain ⟨q, capq, o, capo, hcs, _, _, hqe, _⟩ := hqo
  subst hcs
  subst hn
  dsimp only
  have hs' : tots szA us + xo.length ≤ 1048576 := hs
  have hn2 : us.length ≤ 1048576 := by have := tots_len szA us; omega
  have E := hid (fun (W : World) (L : List Bool) (gl : Nat) (hL : L.length = us.length) (hl : HasL W gl (bc L)) (hW : Below w.heap.size w W) => spec_ear _ ((n5 : Int), us, xo) L gl us.length lo hi n5 W hs (good_query.keep h (sm_below hW hh)) (Nat.le_trans hh hW.size) rfl h5 hva hL hl)
  dsimp only at E
  obtain ⟨nn, hnn⟩ : ∃ z, us.length = z := ⟨_, rfl⟩
  have HNN := hid hnn
  rw [hnn] at E hn2 ⊢
  obtain ⟨bx, hbx⟩ : ∃ z, [Value.int .i64 (n5 : Int), .slice q nn capq, .slice o xo.length capo] = z := ⟨_, rfl⟩
  have hmk := fun W => make_ints (P := Try.prog) W 23 3 i0 Try.underlying23 hi0 hz0 hz1 hz2 nn (by omega)
  have hmb := fun W => make_k (P := Try.prog) W 78 4 ib _ 1 1 Try.underlying78 hb0 hbz0 hbz1 hbz2 (by omega) nn hn2
  simp only [made_b] at hmb
  have K0 := hid (hasl_new w [.int .i64 (n5 : Int), .slice q nn capq, .slice o xo.length capo] 30)
  obtain ⟨wa, hwa⟩ : ∃ z, w.alloc (.cells #[.int .i64 (n5 : Int), .slice q nn capq, .slice o xo.length capo] 30) = z := ⟨_, rfl⟩
  have za : wa.heap.size = w.heap.size + 1 := by rw [← hwa]; simp
  have B0 := hid (show Below w.heap.size w wa by rw [← hwa]; exact (Below.refl _ _).alloc (Nat.le_refl _) _)
  have K0' := hid (show HasL wa w.heap.size [.int .i64 (n5 : Int), .slice q nn capq, .slice o xo.length capo] by rw [← hwa]; exact K0.out)
  obtain ⟨wb, hwb⟩ : ∃ z, wa.alloc (.cells #[] 3) = z := ⟨_, rfl⟩
  have zb : wb.heap.size = w.heap.size + 2 := by rw [← hwb]; simp; omega
  obtain ⟨wc', hwc⟩ : ∃ z, wb.alloc (.cells (Array.replicate nn (.int .i64 0)) 3) = z := ⟨_, rfl⟩
  have zc : wc'.heap.size = w.heap.size + 3 := by rw [← hwc]; simp; omega
  obtain ⟨wd, hwd⟩ : ∃ z, wc'.alloc (.cells (bc (List.replicate nn false)).toArray 4) = z := ⟨_, rfl⟩
  have zd : wd.heap.size = w.heap.size + 4 := by rw [← hwd]; simp; omega
  have OUT := hid (show Own wd (w.heap.size + 1) 3 (.slice (some ⟨w.heap.size + 1, 0, none⟩) 0 0) [] by
    rw [← hwd, ← hwc]
    refine Own.alloc (Own.alloc ?_ _) _
    rw [← hwb]
    have := own_lit wa (w.heap.size + 1) 3 (by omega)
    rw [za] at this
    exact this)
  have UP := hid (show At wd (w.heap.size + 2) 3 nn (List.replicate nn 0) by
    rw [← hwd, ← hwc]
    refine At.alloc ?_ _
    have := at_made wb 3 nn (by omega)
    rw [zb] at this
    exact this)
  have LF := hid (show HasL wd (w.heap.size + 3) (bc (List.replicate nn false)) by
    rw [← hwd]
    have := hasl_new wc' (bc (List.replicate nn false)) 4
    rw [zc] at this
    exact this)
  have BX := hid (show HasL wd w.heap.size [.int .i64 (n5 : Int), .slice q nn capq, .slice o xo.length capo] by
    rw [← hwd, ← hwc, ← hwb]
    exact ((K0'.out.alloc _).alloc _).alloc _)
  have BD := hid (show Below w.heap.size w wd by
    rw [← hwd, ← hwc, ← hwb]
    exact ((B0.out.alloc (by omega) _).alloc (by simp; omega) _).alloc (by simp; omega) _)
  obtain ⟨q0, q1, q2, _, _, _, q6⟩ := K0'.out.three
  have K1' := hid (show HasL wb w.heap.size [.int .i64 (n5 : Int), .slice q nn capq, .slice o xo.length capo] by rw [← hwb]; exact K0'.out.alloc _)
  have K2' := hid (show HasL wc' w.heap.size [.int .i64 (n5 : Int), .slice q nn capq, .slice o xo.length capo] by rw [← hwc]; exact K1'.out.alloc _)
  obtain ⟨r0, r1, r2, _, _, _, r6⟩ := K1'.out.three
  obtain ⟨s0, s1, s2, _, _, _, s6⟩ := K2'.out.three
  clear K1' K2'
  clear h hqe hs hs' hva hbx K0 K0' B0 hnn
  go_enter Try.func39, Try.ntmps39
  go_wp2
  have RS := hid (show Rs wd w nn [.int .i64 (n5 : Int), .slice q nn capq, .slice o xo.length capo] (.slice (some ⟨w.heap.size + 1, 0, none⟩) 0 0) [] (List.replicate nn 0) (List.replicate nn false) from ⟨BX.out, OUT.out, fun k hk => by
    have e1 : w.heap.size + 1 = k := by simpa [Value.ownBlock] using hk
    exact .inl e1.symm, UP.out, LF.out, BD.out, by omega⟩)
  clear q0 q1 q2 q6 r0 r1 r2 r6 s0 s1 s2 s6 BX OUT UP LF BD hmk hmb
  clear hwd hwc hwb hwa zd zc zb za
  go_loopw [7] (fun i wr => ∃ k : Nat, k ≤ nn ∧ i = .int .i64 k ∧ Hid (Rs wr w nn [.int .i64 (n5 : Int), .slice q nn capq, .slice o xo.length capo] (.slice (some ⟨w.heap.size + 1, 0, none⟩) 0 0) [] (fillU (-1) 0 nn k) (fillU true false nn k))) (fun i _ => nn - (intOf i).toNat)
  case atStart => exact ⟨0, Nat.zero_le _, rfl, hid (by rw [fillU_zero, fillU_zero]; exact RS.out)⟩
  case round =>
    obtain ⟨k, hk, rfl, hrs⟩ := hrel
    by_cases hlt : k < nn
    · have hlt' : (k : Int) < (nn : Int) := by omega
      have h0k : (0 : Int) ≤ (k : Int) := by omega
      have h1 := hid (hrs.out.put_lf k true)
      have h2 := hid (h1.out.put_up k (-1))
      rw [fillU_step _ _ hlt, fillU_step _ _ hlt] at h2
      have d1 := bc_free hrs.out.lf k (by rw [fillU_len _ _ hk]; exact hlt)
      obtain ⟨u1, d2⟩ : ∃ u, wr.cell? ⟨w.heap.size + 3, k, none⟩ = some u := ⟨_, bc_cell hrs.out.lf k (by rw [fillU_len _ _ hk]; exact hlt)⟩
      obtain ⟨u2, d3⟩ : ∃ u, (wr.setCell ⟨w.heap.size + 3, k, none⟩ (.bool true)).cell? ⟨w.heap.size + 2, k, none⟩ = some u := ⟨_, h1.out.up.cell k (by rw [fillU_len _ _ hk]; exact hlt)⟩
      have d4 := h1.out.up.free k
      clear h1 hrs RS
      go_wp2
      go_roundw
      case rel => exact ⟨k + 1, by omega, by go_num, h2⟩
      case measure => simp [intOf]; omega
    · have e : k = nn := by omega
      have hlt' : ¬ (k : Int) < (nn : Int) := by omega
      have HR0 := hid (show Rs wr w nn [.int .i64 (n5 : Int), .slice q nn capq, .slice o xo.length capo] (.slice (some ⟨w.heap.size + 1, 0, none⟩) 0 0) [] (S0 nn).up (S0 nn).left by
        have := hrs.out
        rw [e, fillU_all, fillU_all] at this
        exact this)
      clear RS hrs e
      go_wp2
      go_loopg [4, 8, 9] nn (fun g s4 _ _ wr => ∃ (v4 : Value) (S : St), v4 = s4 ∧ Hid (S.left.count true = g) ∧ Hid (Inv us S) ∧ Hid (Rs wr w nn [.int .i64 (n5 : Int), .slice q nn capq, .slice o xo.length capo] v4 S.out S.up S.left))
      case atStart => exact ⟨_, S0 nn, rfl, hid (by simp [S0]), hid (by rw [← HNN.out]; exact inv_zero us), HR0⟩
      case round =>
        obtain ⟨v4, S, rfl, hgk, hinv, hrs⟩ := hrel
        obtain ⟨w1, rfl⟩ : ∃ w1 : World, w1 = wr := ⟨_, rfl⟩
        obtain ⟨G, rfl⟩ : ∃ G : Nat, G = gk := ⟨_, rfl⟩
        clear HR0
        obtain ⟨q0, q1, q2, _, _, _, q6⟩ := hrs.out.box.three
        have EE := hid (E.out w1 S.left (w.heap.size + 3) (by rw [hinv.out.ll, HNN.out]) hrs.out.lf hrs.out.bel)
        go_wp2_with fail
        with_reducible refine EE.out.mono ?_
        rintro e w2 ⟨he, hb2⟩
        have HR2 := hid (hrs.out.grown hb2)
        clear q0 q1 q2 q6 hb2 hrs
        rcases he with ⟨i, k, h1, h2, rfl⟩ | ⟨h1, rfl⟩
        · have hil : i < nn := by rw [← HNN.out]; exact ear_lt h1
          obtain ⟨hinv2, hcnt⟩ := hinv.out.step (by rw [HNN.out]; exact hil) (earK_ok h2) (stp_of h1 h2)
          have HI2 := hid hinv2
          have HCN := hid hcnt
          have hsol : S.out.length ≤ 8796093022208 := by have := hinv.out.cnt; have := HNN.out; omega
          have hul : S.up.length = nn := by rw [hinv.out.lu, HNN.out]
          have hll : S.left.length = nn := by rw [hinv.out.ll, HNN.out]
          have HUL := hid hul
          have HLL := hid hll
          have t1 : ¬ (i : Int) < 0 := by omega
          have h0i : (0 : Int) ≤ (i : Int) := by omega
          have hin : (i : Int) < (nn : Int) := by omega
          have hsz2 := HR2.out.sz
          have hbase : w.heap.size + 1 ≤ w2.heap.size := by omega
          have HOW := hid HR2.out.ow
          clear h1 h2 hinv2 hcnt hul hll
          go_wp2_with (at_builtin; refine append_intL rfl _ _ 23 rfl (w.heap.size + 1) 3 i0 Try.underlying23 hi0 hz0 hz1 hz2 w2 v4 S.out (i : Int) HOW.out (by rfl) hbase _ rfl w2.heap.size rfl (by rfl) hsol ?_)
          intro v5 w3 hown3 hgr haw
          have R3 := hid (HR2.out.app hown3 hgr haw)
          have R4 := hid (R3.out.put_up i (k : Int))
          have R5 := hid (R4.out.put_lf i false)
          obtain ⟨u1, d1⟩ : ∃ u, w3.cell? ⟨w.heap.size + 2, i, none⟩ = some u := ⟨_, R3.out.up.cell i (by rw [HUL.out]; exact hil)⟩
          have d2 := R3.out.up.free i
          obtain ⟨u2, d3⟩ : ∃ u, (w3.setCell ⟨w.heap.size + 2, i, none⟩ (.int .i64 (k : Int))).cell? ⟨w.heap.size + 3, i, none⟩ = some u := ⟨_, bc_cell R4.out.lf i (by rw [HLL.out]; exact hil)⟩
          have d4 := bc_free R4.out.lf i (by rw [HLL.out]; exact hil)
          clear hown3 hgr haw R3 R4 HR2 HOW
          go_wp2
          go_roundg ((S.left.set i false).count true)
          case measure => have := HCN.out; have := hgk.out; omega
          case rel => exact ⟨v5, ⟨S.out ++ [(i : Int)], S.up.set i (k : Int), S.left.set i false⟩, rfl, hid rfl, HI2, R5⟩
        · have HF := hid (hinv.out.done (stp_no h1))
          obtain ⟨av, capv, hv, _, _, _⟩ := HR2.out.ow.form
          subst hv
          clear h1
          go_wp2
          go_ret2
          refine ⟨av, capv, w.heap.size + 2, by rw [HF.out, ← HNN.out]; rfl, ?_, ?_, by omega, HR2.out.bel⟩
          · rw [HF.out]
            exact HR2.out.ow.mono (by omega)
          · rw [HF.out, HNN.out]
            exact HR2.out.up
end Go.Proofs.Ytaeeogighoobdaa.GyoT
