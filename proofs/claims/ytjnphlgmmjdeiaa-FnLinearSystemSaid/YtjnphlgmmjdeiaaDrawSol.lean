/- The draw of a linear system (spec.DrawSolveLinearSystem). -/
import Derived.Test.YtjnphlgmmjdeiaaCur
import Derived.WalkKit
import Derived.ProofKit
import Derived.OpenShut
import Derived.IntWalk
import Derived.BigQuiet
import Derived.Deep.QuietTactic
import Derived.Deep.Draws
import Derived.Test.YtjnphlgmmjdeiaaRows
import Derived.Test.YtjnphlgmmjdeiaaNum
import Derived.Test.YtjnphlgmmjdeiaaIntRow
import Derived.Deep.RegionLaw
import Derived.Deep.RegionWith
import Derived.Deep.DeepMust
import Derived.Deep.DeepCutAuto
import Derived.Test.YtjnphlgmmjdeiaaRatLaw
import Derived.Test.YtjnphlgmmjdeiaaCells
import Derived.Test.YtjnphlgmmjdeiaaGridQ2
import Derived.Test.YtjnphlgmmjdeiaaRatsSS
import Derived.Test.YtjnphlgmmjdeiaaApnd
import Derived.Test.YtjnphlgmmjdeiaaAppQ
namespace Go.Proofs.Ytjnphlgmmjdeiaa.Draw
open Go.ChangeShapes Go.WideShapes Go.ChangeAt Go.RowKit
open Go.Proofs.Ytjnphlgmmjdeiaa.Num Go.Proofs.Ytjnphlgmmjdeiaa.Row Go.Proofs.Ytjnphlgmmjdeiaa.Cur
set_option linter.unusedVariables false

theorem byte_more (c b off cap : Nat) (l : List UInt8) (s : St) (w : World) (hc : Cu w c (.slice (some ⟨b, off, none⟩) l.length cap) l s)
    (hi : s.1 < l.length) (hne : b ≠ c) (hb : w.cell? ⟨b, off + s.1, none⟩ = some (.int .u8 ((l[s.1].toNat : Nat) : Int))) :
    Calls Try.prog 90 #[.pointer (some ⟨c, 0, none⟩)] w fun e w' => e = .returned (.int .i64 (byteF l s).1) ∧ Cu w' c (.slice (some ⟨b, off, none⟩) l.length cap) l (byteF l s).2 ∧ w.grownBy w' (some c) := by
  obtain ⟨h0, h1, h2, f1, f2⟩ := hc.cells
  obtain ⟨h', hh⟩ : ∃ h', nextH s.2 = h' := ⟨_, rfl⟩
  obtain ⟨x, hx⟩ : ∃ x, mixH h' = x := ⟨_, rfl⟩
  obtain ⟨x0, x1⟩ := mixH_bounds h'
  rw [hx] at x0 x1
  have hm := hc.small
  have HC := hid hc
  have hr := byteF_in l s hi
  rw [hh, hx] at hr
  have HR := hid hr
  have HH := hid hh
  clear hc hr
  unfold nextH at hh
  unfold mixH at hx
  have hbb := l[s.1].toNat_lt
  generalize l[s.1].toNat = bb at hb hbb HR
  obtain ⟨i, h⟩ := s
  simp only at *
  go_enter Try.func90, Try.ntmps90
  go_wp2
  go_quiet (fail)
  clear hh hx
  go_wp2
  go_quiet (fail)
  go_wp2
  go_quiet (fail)
  go_wp2
  go_ret
  refine ⟨?_, HC.out.more hi _ _ _ HH.out.symm rfl⟩
  rw [HR.out]
  rfl

theorem byte_end (c : Nat) (sv : Value) (n : Nat) (l : List UInt8) (s : St) (w : World) (hc : Cu w c sv l s) (hsv : ∃ a cap, sv = .slice a n cap) (hn : n = l.length) (hi : ¬ s.1 < l.length) :
    Calls Try.prog 90 #[.pointer (some ⟨c, 0, none⟩)] w fun e w' => e = .returned (.int .i64 (byteF l s).1) ∧ Cu w' c sv l (byteF l s).2 ∧ w.grownBy w' (some c) := by
  obtain ⟨a, cap, rfl⟩ := hsv
  obtain ⟨h0, h1, h2, f1, f2⟩ := hc.cells
  obtain ⟨h', hh⟩ : ∃ h', nextH s.2 = h' := ⟨_, rfl⟩
  obtain ⟨x, hx⟩ : ∃ x, mixH h' = x := ⟨_, rfl⟩
  obtain ⟨x0, x1⟩ := mixH_bounds h'
  rw [hx] at x0 x1
  have hm := hc.small
  have hp := hc.place
  have HC := hid hc
  have hr := byteF_out l s hi
  rw [hh, hx] at hr
  have HR := hid hr
  have HH := hid hh
  have HI := hid hi
  have hin : ¬ (s.1 : Int) < (n : Int) := by omega
  have HN := hid hn
  clear hc hr hi hn hp hm
  unfold nextH at hh
  unfold mixH at hx
  obtain ⟨i, h⟩ := s
  simp only at *
  go_enter Try.func90, Try.ntmps90
  go_wp2
  go_quiet (fail)
  clear hh hx
  go_wp2
  go_quiet (fail)
  go_wp2
  go_ret
  obtain ⟨k1, k2⟩ := HC.out.next HI.out _ _ HH.out.symm
  refine ⟨?_, k1.drewN _, grown_drew k2 _⟩
  rw [HR.out]
  rfl

/-- l1Byte. -/
theorem byte_any (c : Nat) (sv : Value) (l : List UInt8) (s : St) (w : World) (hc : Cu w c sv l s) :
    Calls Try.prog 90 #[.pointer (some ⟨c, 0, none⟩)] w fun e w' => e = .returned (.int .i64 (byteF l s).1) ∧ Cu w' c sv l (byteF l s).2 ∧ w.grownBy w' (some c) := by
  by_cases hi : s.1 < l.length
  · rcases hc.code with ⟨rfl, _⟩ | ⟨b, off, cap, rfl, hbc, hcell⟩
    · simp at hi
    · exact byte_more c b off cap l s w hc hi (by omega) (hcell s.1 hi)
  · rcases hc.code with ⟨h0, a, cap, h1⟩ | ⟨b, off, cap, h1, hbc, hcell⟩
    · exact byte_end c sv 0 l s w hc ⟨a, cap, h1⟩ (by rw [h0]; rfl) hi
    · exact byte_end c sv l.length l s w hc ⟨_, cap, h1⟩ rfl hi

theorem zero_below (c : Nat) (n : Int) (w : World) (hn : n ≤ 0) :
    Calls Try.prog 55 #[.pointer (some ⟨c, 0, none⟩), .int .i64 n] w fun e w' => e = .returned (.int .i64 0) ∧ w = w' := by
  go_enter Try.func55, Try.ntmps55
  go_wp2
  go_ret
  exact ⟨rfl, rfl⟩

/-- l1Below. -/
theorem below_any (c : Nat) (n : Int) (sv : Value) (l : List UInt8) (s : St) (w : World) (hc : Cu w c sv l s) (hn : n ≤ 9223372036854775807) :
    Calls Try.prog 55 #[.pointer (some ⟨c, 0, none⟩), .int .i64 n] w fun e w' => e = .returned (.int .i64 (belowF l n s).1) ∧ Cu w' c sv l (belowF l n s).2 ∧ w.grownBy w' (some c) := by
  have HC := hid hc
  clear hc
  by_cases h0 : n ≤ 0
  · have e : belowF l n s = (0, s) := by unfold belowF; rw [if_pos h0]
    rw [e]
    exact (zero_below c n w h0).mono fun e w' ⟨h1, h2⟩ => by subst h2; exact ⟨h1, HC.out, grown_refl _ _⟩
  · by_cases h1 : n ≤ 256
    · have e : belowF l n s = ((byteF l s).1 % n, (byteF l s).2) := by unfold belowF; rw [if_neg h0, if_pos h1]
      rw [e]
      obtain ⟨b0, b1⟩ := byteF_bounds l s
      have HB := byte_any c sv l s w HC.out
      generalize byteF l s = r at HB b0 b1 ⊢
      obtain ⟨x, s1⟩ := r
      simp only at *
      have H2 := hid HB
      clear HB
      go_enter Try.func55, Try.ntmps55
      go_wp2_with fail
      refine H2.out.mono ?_
      rintro e w1 ⟨rfl, hc1, hg1⟩
      have K1 := hid hc1
      have K2 := hid hg1
      clear hc1 hg1
      go_wp2_with fail
      go_ret
      exact ⟨rfl, K1.out, K2.out⟩
    · have e : belowF l n s = ((fourF l s).1 % n, (fourF l s).2) := by unfold belowF; rw [if_neg h0, if_neg h1]
      rw [e]
      unfold fourF
      simp only
      obtain ⟨a0, a1⟩ := byteF_bounds l s
      have B1 := byte_any c sv l s w HC.out
      generalize byteF l s = r1 at B1 a0 a1 ⊢
      obtain ⟨x1, s1⟩ := r1
      simp only at *
      obtain ⟨b0, b1⟩ := byteF_bounds l s1
      have B2 := fun w h => byte_any c sv l s1 w h
      generalize byteF l s1 = r2 at B2 b0 b1 ⊢
      obtain ⟨x2, s2⟩ := r2
      simp only at *
      obtain ⟨c0, c1⟩ := byteF_bounds l s2
      have B3 := fun w h => byte_any c sv l s2 w h
      generalize byteF l s2 = r3 at B3 c0 c1 ⊢
      obtain ⟨x3, s3⟩ := r3
      simp only at *
      obtain ⟨d0, d1⟩ := byteF_bounds l s3
      have B4 := fun w h => byte_any c sv l s3 w h
      generalize byteF l s3 = r4 at B4 d0 d1 ⊢
      obtain ⟨x4, s4⟩ := r4
      simp only at *
      have H1 := hid B1
      have H2 := hid B2
      have H3 := hid B3
      have H4 := hid B4
      clear B1 B2 B3 B4
      go_enter Try.func55, Try.ntmps55
      go_wp2_with fail
      refine H1.out.mono ?_
      rintro e w1 ⟨rfl, k1, g1⟩
      have K1 := hid k1
      have G1 := hid g1
      clear k1 g1
      go_wp2_with fail
      refine (H2.out _ K1.out).mono ?_
      rintro e w2 ⟨rfl, k2, g2⟩
      have K2 := hid k2
      have G2 := hid g2
      clear k2 g2
      go_wp2_with fail
      refine (H3.out _ K2.out).mono ?_
      rintro e w3 ⟨rfl, k3, g3⟩
      have K3 := hid k3
      have G3 := hid g3
      clear k3 g3
      go_wp2_with fail
      refine (H4.out _ K3.out).mono ?_
      rintro e w4 ⟨rfl, k4, g4⟩
      have K4 := hid k4
      have G4 := hid g4
      clear k4 g4
      go_wp2_with fail
      go_ret
      exact ⟨rfl, K4.out, grown_trans (grown_trans (grown_trans G1.out G2.out) G3.out) G4.out⟩

/-- l1Once. -/
theorem once_any (c : Nat) (n : Int) (sv : Value) (l : List UInt8) (s : St) (w : World) (hc : Cu w c sv l s) (hn : n ≤ 9223372036854775807) :
    Calls Try.prog 57 #[.pointer (some ⟨c, 0, none⟩), .int .i64 n] w fun e w' => e = .returned (.bool ((belowF l n s).1 == 0)) ∧ Cu w' c sv l (belowF l n s).2 ∧ w.grownBy w' (some c) := by
  have HB := hid (below_any c n sv l s w hc hn)
  clear hc
  generalize belowF l n s = r at HB ⊢
  obtain ⟨x, s1⟩ := r
  simp only at *
  go_enter Try.func57, Try.ntmps57
  go_wp2_with fail
  refine HB.out.mono ?_
  rintro e w1 ⟨rfl, hc1, hg1⟩
  have K1 := hid hc1
  have K2 := hid hg1
  clear hc1 hg1
  go_wp2_with fail
  go_ret
  exact ⟨rfl, K1.out, K2.out⟩

/-- What l1New hands back: a new block, the cursor over the code at its start. -/
def NewAt (sv : Value) (l : List UInt8) (w : World) (e : Ending) (w' : World) : Prop :=
  ∃ c, e = .returned (.pointer (some ⟨c, 0, none⟩)) ∧ w.heap.size ≤ c ∧ Cu w' c sv l (0, numH l (min 4000 l.length)) ∧ Below w.heap.size w w'

theorem new_made (w : World) (sv : Value) (l : List UInt8) (h : Int) (hl : l.length ≤ 1048576) (hc : Cur.Code w w.heap.size sv l) (hh : h = numH l (min 4000 l.length)) :
    NewAt sv l w (.returned (.pointer (some ⟨w.heap.size, 0, none⟩))) (w.alloc (.cells #[sv, .int .i64 0, .int .i64 h] 97)) := by
  have hb : Below w.heap.size w (w.alloc (.cells #[sv, .int .i64 0, .int .i64 h] 97)) := (Below.refl _ _).alloc (Nat.le_refl _) _
  refine ⟨w.heap.size, rfl, Nat.le_refl _, ⟨?_, Nat.zero_le _, hl, hc.below hb (Nat.le_refl _)⟩, hb⟩
  subst hh
  exact heap_alloc_new w _

theorem new_empty (w : World) (a : Option Addr) (cap : Nat) :
    Calls Try.prog 54 #[.slice a 0 cap] w fun e w' => NewAt (.slice a 0 cap) [] w e w' := by
  have hm := hid (new_made w (.slice a 0 cap) [] 10101 (by simp) (Or.inl ⟨rfl, a, cap, rfl⟩) rfl)
  go_enter Try.func54, Try.ntmps54
  go_wp2
  go_loop [3, 4] (fun h i => h = .int .i64 10101 ∧ i = .int .i64 0) (fun _ i => 1 - (intOf i).toNat)
  case atStart => exact ⟨rfl, rfl⟩
  case round =>
    obtain ⟨rfl, rfl⟩ := hrel
    go_wp2
    go_ret
    exact hm.out

set_option maxRecDepth 100000 in
theorem new_some (w : World) (b off cap : Nat) (l : List UInt8) (hl : l.length ≤ 1048576) (hb : b < w.heap.size) (hcell : ∀ j (h : j < l.length), w.cell? ⟨b, off + j, none⟩ = some (.int .u8 ((l[j].toNat : Nat) : Int))) :
    Calls Try.prog 54 #[.slice (some ⟨b, off, none⟩) l.length cap] w fun e w' => NewAt (.slice (some ⟨b, off, none⟩) l.length cap) l w e w' := by
  have hm := hid fun h (hh : h = numH l (min 4000 l.length)) => new_made w (.slice (some ⟨b, off, none⟩) l.length cap) l h hl (Or.inr ⟨b, off, cap, rfl, hb, hcell⟩) hh
  have HC := hid hcell
  clear hcell
  go_enter Try.func54, Try.ntmps54
  go_wp2
  go_loop [3, 4] (fun h i => ∃ k : Nat, k ≤ l.length ∧ k ≤ 4000 ∧ i = .int .i64 k ∧ h = .int .i64 (numH l k)) (fun _ i => 4001 - (intOf i).toNat)
  case atStart => exact ⟨0, Nat.zero_le _, Nat.zero_le _, rfl, by simp [numH]⟩
  case round =>
    obtain ⟨k, hk, hk4, rfl, rfl⟩ := hrel
    obtain ⟨n0, n1⟩ := numH_bounds l hl k hk
    by_cases hlt : k < l.length ∧ k < 4000
    · obtain ⟨hl1, hl2⟩ := hlt
      have hst := hid (numH_step l k hl1)
      have hce := HC.out k hl1
      have hbb := l[k].toNat_lt
      generalize l[k].toNat = bb at hst hce hbb
      generalize numH l k = h at n0 n1 hst ⊢
      go_wp2
      go_round
      case rel => exact ⟨k + 1, by omega, by omega, by go_num, by rw [hst.out]; rfl⟩
      case measure => simp [intOf]; omega
    · have hend := hid (hm.out (numH l k) (by congr 1; omega))
      clear hm n0 n1
      have hge : ¬ k < l.length ∨ (k < l.length ∧ ¬ k < 4000) := by omega
      clear hlt
      generalize numH l k = h at hend ⊢
      rcases hge with hge | ⟨hge, hg2⟩
      · go_wp2
        go_ret
        exact hend.out
      · go_wp2
        go_ret
        exact hend.out

/-- l1New. -/
theorem new_any (w : World) (sv : Value) (l : List UInt8) (hl : l.length ≤ 1048576) (hc : Cur.Code w w.heap.size sv l) :
    Calls Try.prog 54 #[sv] w fun e w' => NewAt sv l w e w' := by
  rcases hc with ⟨rfl, a, cap, rfl⟩ | ⟨b, off, cap, rfl, hb, hcell⟩
  · exact new_empty w a cap
  · exact new_some w b off cap l hl hb hcell

end Go.Proofs.Ytjnphlgmmjdeiaa.Draw

namespace Go.Proofs.Ytjnphlgmmjdeiaa.Pick
open Go.ChangeShapes Go.WideShapes Go.ChangeAt Go.RowKit
open Go.Proofs.Ytjnphlgmmjdeiaa.Num Go.Proofs.Ytjnphlgmmjdeiaa.Row Go.Proofs.Ytjnphlgmmjdeiaa.Cur Go.Proofs.Ytjnphlgmmjdeiaa.Draw
set_option linter.unusedVariables false

/-- What a draw of an int leaves: the answer, the cursor moved, nothing else of what was there. -/
def IntAt (c : Nat) (sv : Value) (l : List UInt8) (r : Int × St) (w : World) (e : Ending) (w' : World) : Prop :=
  e = .returned (.int .i64 r.1) ∧ Cu w' c sv l r.2 ∧ w.grownBy w' (some c)

def pickF (l : List UInt8) (zs : List Int) (s : St) : Int × St :=
  (zs.getD (belowF l (zs.length : Nat) s).1.toNat 0, (belowF l (zs.length : Nat) s).2)

theorem pick_any (c : Nat) (sv : Value) (l : List UInt8) (s : St) (w : World) (hc : Cu w c sv l s) (b cap : Nat) (zs : List Int) (h1 : 1 ≤ zs.length) (h2 : zs.length ≤ 1000) (hbc : b ≠ c)
    (hcell : ∀ j, j < zs.length → w.cell? ⟨b, j, none⟩ = some (.int .i64 (zs.getD j 0))) :
    Calls Try.prog 117 #[.pointer (some ⟨c, 0, none⟩), .slice (some ⟨b, 0, none⟩) zs.length cap] w fun e w' => IntAt c sv l (pickF l zs s) w e w' := by
  have HB := hid (below_any c (zs.length : Nat) sv l s w hc (by omega))
  have hbd := belowF_bounds l (zs.length : Nat) s (by omega)
  have HC := hid hcell
  clear hc hcell
  unfold pickF
  generalize belowF l (zs.length : Nat) s = r at HB hbd ⊢
  obtain ⟨x, s1⟩ := r
  obtain ⟨x0, x1⟩ := hbd
  simp only at *
  obtain ⟨n, rfl⟩ := Int.eq_ofNat_of_zero_le x0
  have hn : n < zs.length := by omega
  simp only [Int.toNat_natCast]
  have hcn := HC.out n hn
  generalize zs.getD n 0 = z at hcn ⊢
  have HZ := hid hcn
  clear hcn
  go_enter Try.func117, Try.ntmps117
  go_wp2_with fail
  refine HB.out.mono ?_
  rintro e w1 ⟨rfl, hc1, hg1⟩
  have hce : w1.cell? ⟨b, n, none⟩ = some (.int .i64 z) := hg1.cell HZ.out (by simp; omega)
  have K1 := hid hc1
  have K2 := hid hg1
  clear hc1 hg1
  go_wp2_with fail
  go_ret
  exact ⟨rfl, K1.out, K2.out⟩

end Go.Proofs.Ytjnphlgmmjdeiaa.Pick

namespace Go.Proofs.Ytjnphlgmmjdeiaa.IntLaw
open Go.RowKit
open Go.Proofs.Ytjnphlgmmjdeiaa.Num Go.Proofs.Ytjnphlgmmjdeiaa.IntRow
set_option linter.unusedVariables false
end Go.Proofs.Ytjnphlgmmjdeiaa.IntLaw

namespace Go.Proofs.Ytjnphlgmmjdeiaa.DrawBig
open Go.RowKit
open Go.Proofs.Ytjnphlgmmjdeiaa.Num Go.Proofs.Ytjnphlgmmjdeiaa.Row Go.Proofs.Ytjnphlgmmjdeiaa.Cur Go.Proofs.Ytjnphlgmmjdeiaa.Draw Go.Proofs.Ytjnphlgmmjdeiaa.Pick Go.Proofs.Ytjnphlgmmjdeiaa.IntRow Go.Proofs.Ytjnphlgmmjdeiaa.IntLaw
set_option linter.unusedVariables false

section
variable {P : Program}
/-- 'append(v, z)' as one step of a region that draws its order. -/
theorem step_int {ops : Array Oper} {o : Oper} {a : Act} {K : Act → World → Prop} {Q : Exit → Act → World → Prop} {E : Prop} (hgd : o.guard = none) (s x : Operand) (t : TypeId)
    (ho : o.op = .call { callee := .builtin .append, args := #[s, x], argTypes := #[t, t] })
    (base : Nat) (e : TypeId) (i : TypeInfo) (ht : P.underlying t = some (.slice e)) (hi : P.info? e = some i) (hz : i.zero = some (.int .i64 0))
    (hsize : i.size = 1) (hby : i.bytes = 8) (wr : World) (v : Value) (l : List Int) (z : Int) (hown : Own wr base e v l) (hs : a.eval s = v) (hbase : base ≤ wr.heap.size)
    (hx : a.eval x = .slice (some ⟨wr.heap.size, 0, none⟩) 1 1) (hlen : l.length ≤ 8796093022208)
    (h : ∀ v' w', Own w' base e v' (l ++ [z]) → wr.grownBy w' v.ownBlock → K (a.put o.dst v') w') :
    if Region.wanted o (yielded ops a.tmps) = true then Oper.wp P o a (wr.alloc (.cells #[.int .i64 z] e)) K Q else E := by
  have hw : Region.wanted o (yielded ops a.tmps) = true := by simp [Region.wanted, hgd]
  rw [if_pos hw]
  refine wp_append_own _ s x t ho base e i (.int .i64 0) 1 8 ht hi hz hsize hby rfl (by decide) v l.length (ic l) hs (hown.alloc _) ⟨wr.heap.size, 0, none⟩ 1 1 (ic [z]) hx rfl ?_ ?_ ?_ ?_ ?_ ?_
  · intro j u hj
    match j, hj with
    | 0, hj => simp [ic] at hj; subst hj; simp [Addr.add]
    | j + 1, hj => simp [ic] at hj
  · intro u hu; simp [ic] at hu; subst hu; rfl
  · unfold maxLen; omega
  · omega
  · simp; omega
  · intro v' w' hown' hgrow _
    refine h v' w' ?_ ?_
    · unfold Own
      rw [ic_append]
      simpa using hown'
    · exact ⟨hgrow.os, hgrow.tape, hgrow.output, by have := hgrow.size; simp at this; omega, fun k hk hne => (hgrow.block k (by simp; omega) hne).trans (Below.heap_alloc _ _ _ hk)⟩
end

/-- A small draw: some number below n; the cursor moved. -/
def Drew (c : Nat) (sv : Value) (l : List UInt8) (n : Int) (w : World) (e : Ending) (w' : World) : Prop :=
  ∃ (x : Nat) (s : St), e = .returned (.int .i64 x) ∧ (x : Int) < n ∧ Cu w' c sv l s ∧ w.grownBy w' (some c)
theorem below_pos (c : Nat) (n : Int) (sv : Value) (l : List UInt8) (s : St) (w : World) (hc : Cu w c sv l s) (h0 : 1 ≤ n) (hn : n ≤ 256) :
    Calls Try.prog 55 #[.pointer (some ⟨c, 0, none⟩), .int .i64 n] w (Drew c sv l n w) := by
  have hbd := belowF_bounds l n s h0
  refine (below_any c n sv l s w hc (by omega)).mono ?_
  rintro e w' ⟨he, h1, h2⟩
  generalize belowF l n s = r at hbd he h1
  obtain ⟨x, s1⟩ := r
  obtain ⟨x0, x1⟩ := hbd
  simp only at *
  obtain ⟨m, rfl⟩ := Int.eq_ofNat_of_zero_le x0
  exact ⟨m, s1, he, x1, h1, h2⟩
def Tossed (c : Nat) (sv : Value) (l : List UInt8) (w : World) (e : Ending) (w' : World) : Prop :=
  ∃ (b : Bool) (s : St), e = .returned (.bool b) ∧ Cu w' c sv l s ∧ w.grownBy w' (some c)
theorem toss (c : Nat) (n : Int) (sv : Value) (l : List UInt8) (s : St) (w : World) (hc : Cu w c sv l s) (hn : n ≤ 256) :
    Calls Try.prog 57 #[.pointer (some ⟨c, 0, none⟩), .int .i64 n] w (Tossed c sv l w) :=
  (once_any c n sv l s w hc (by omega)).mono fun e w' ⟨he, h1, h2⟩ => ⟨_, _, he, h1, h2⟩

/-- Some big integer in a row of the call's own; the cursor moved; nothing else of what was there is turned. -/
def BigAt (c : Nat) (sv : Value) (l : List UInt8) (w : World) (e : Ending) (w' : World) : Prop :=
  ∃ (xs : List Int) (a : Option Addr) (cap : Nat) (s : St), e = .returned (.agg #[.slice a xs.length cap]) ∧ xs.length ≤ 100 ∧ Own w' w.heap.size 3 (.slice a xs.length cap) xs ∧ Cu w' c sv l s ∧ w.grownBy w' (some c)

theorem cu_one {w : World} {c b : Nat} {sv : Value} {l : List UInt8} {s : St} (hc : Cu w c sv l s) (hb : c < b) (u : Value) : Cu (w.setCell ⟨b, 0, none⟩ u) c sv l s :=
  hc.below (B := c + 1) ((Below.refl _ _).setCell (p := ⟨b, 0, none⟩) (by show c + 1 ≤ b; omega) u) (by omega)

theorem grown_fresh {w a b : World} {row row2 : Option Nat} (h : w.grownBy a row) (g : a.grownBy b row2) (hr : ∀ q, row2 = some q → w.heap.size ≤ q) : w.grownBy b row :=
  ⟨g.os.trans h.os, g.tape.trans h.tape, g.output.trans h.output, Nat.le_trans h.size g.size, fun k hk hne => (g.block k (Nat.lt_of_lt_of_le hk h.size) (fun e => by have := hr k e.symm; omega)).trans (h.block k hk hne)⟩
theorem grown_far {w a : World} {row : Option Nat} (h : w.grownBy a row) {b i : Nat} (hb : w.heap.size ≤ b) (u : Value) : w.grownBy (a.setCell ⟨b, i, none⟩ u) row :=
  ⟨h.os, h.tape, h.output, by simp; exact h.size, fun k hk hne => (Below.heap_setCell _ _ _ _ (by simp only; omega)).trans (h.block k hk hne)⟩
theorem grown_dr {w a b : World} {row : Option Nat} (h : w.grownBy a row) (g : a.drew.grownBy b row) : w.grownBy b row :=
  IntRow.grown_trans (show w.grownBy a.drew row from ⟨h.os, h.tape, h.output, h.size, h.block⟩) g
theorem cu_grown {w w' : World} {c : Nat} {sv : Value} {l : List UInt8} {s : St} {row : Option Nat} (hc : Cu w c sv l s) (hg : w.grownBy w' row) (hr : ∀ q, row = some q → c < q) : Cu w' c sv l s :=
  hc.below (B := c + 1) ((Below.refl _ _).grown hg hc.lt (fun q hq => hr q hq)) (by omega)

theorem at_grown {w w' : World} {g : Nat} {e : TypeId} {cap : Nat} {xs : List Int} {row : Option Nat} (h : At w g e cap xs) (hg : w.grownBy w' row) (hne : row ≠ some g) : At w' g e cap xs :=
  Own.grown (lo := g) h hg (fun q hq e => hne (by rw [e]; exact hq.symm))

theorem cu_set {w : World} {c b i : Nat} {sv : Value} {l : List UInt8} {s : St} (hc : Cu w c sv l s) (hb : c < b) (u : Value) : Cu (w.setCell ⟨b, i, none⟩ u) c sv l s :=
  hc.below (B := c + 1) ((Below.refl _ _).setCell (p := ⟨b, i, none⟩) (by show c + 1 ≤ b; omega) u) (by omega)

theorem list_cell (zs : List Int) (j : Nat) (hj : j < zs.length) : ((zs.map (Value.int .i64)).toArray)[j]? = some (.int .i64 (zs.getD j 0)) := by
  simp [List.getD, hj]
/-- The draw out of the two numbers that are no digits: made block and all. -/
theorem pick_two (c : Nat) (sv : Value) (l : List UInt8) (s : St) (w : World) (hc : Cu w.drew c sv l s) (W : World) (hW : W = w.drew.alloc (.cells #[.int .i64 (-1), .int .i64 10] 3)) :
    Calls Try.prog 117 #[.pointer (some ⟨c, 0, none⟩), .slice (some ⟨w.heap.size, 0, none⟩) 2 2] W fun e w' => ∃ (x : Int) (s' : St), e = .returned (.int .i64 x) ∧ Cu w' c sv l s' ∧ W.grownBy w' (some c) := by
  subst hW
  have hlt : c < w.heap.size := hc.lt
  refine (pick_any c sv l s _ (hc.below (B := w.drew.heap.size) ((Below.refl w.drew.heap.size w.drew).alloc (Nat.le_refl _) _) hlt) w.heap.size 2 [-1, 10] (by decide) (by decide) (by omega) ?_).mono ?_
  · intro j hj
    refine (World.cell?_alloc_at _ _ _ _ rfl).trans ?_
    exact list_cell [-1, 10] j hj
  · rintro e w' ⟨he, h1, h2⟩
    exact ⟨_, _, he, h1, h2⟩

end Go.Proofs.Ytjnphlgmmjdeiaa.DrawBig

namespace Go.Proofs.Ytjnphlgmmjdeiaa.DrawRat
open Go.RowKit
open Go.Proofs.Ytjnphlgmmjdeiaa.Num Go.Proofs.Ytjnphlgmmjdeiaa.Row Go.Proofs.Ytjnphlgmmjdeiaa.Cur Go.Proofs.Ytjnphlgmmjdeiaa.Draw Go.Proofs.Ytjnphlgmmjdeiaa.Pick Go.Proofs.Ytjnphlgmmjdeiaa.Rat Go.Proofs.Ytjnphlgmmjdeiaa.New Go.Proofs.Ytjnphlgmmjdeiaa.RatLaw Go.Proofs.Ytjnphlgmmjdeiaa.Cells
open Go.Proofs.Ytjnphlgmmjdeiaa.DrawBig (below_pos toss Drew Tossed list_cell grown_fresh grown_far cu_set)
set_option linter.unusedVariables false

/-- Some struct of two ints not above m; the cursor moved; nothing else of what was there is turned. -/
def RatAt (m : Int) (c : Nat) (sv : Value) (l : List UInt8) (w : World) (e : Ending) (w' : World) : Prop :=
  ∃ (x y : Int) (s : St), e = .returned (.agg #[.int .i64 x, .int .i64 y]) ∧ (-m ≤ x ∧ x ≤ m) ∧ (-m ≤ y ∧ y ≤ m) ∧ Cu w' c sv l s ∧ w.grownBy w' (some c)

theorem rx_bd (n d : Int) : (-1000000000 ≤ rx (nok n d) (nx n d) ∧ rx (nok n d) (nx n d) ≤ 1000000000) ∧ (-1000000000 ≤ rx (nok n d) (ny n d) ∧ rx (nok n d) (ny n d) ≤ 1000000000) := by
  cases h : nok n d with
  | false => simp [rx]
  | true =>
    unfold nok at h
    rw [Bool.and_eq_true] at h
    obtain ⟨a, b, c, e, _⟩ := vr_true h.2
    simp only [rx, if_true]
    omega
theorem has2_grown {w w' : World} {b : Nat} {x y : Value} {row : Option Nat} (h : Has2 w b x y) (hg : w.grownBy w' row) (hne : row ≠ some b) : Has2 w' b x y := by
  have hb := hg.block b h.2.2.1 (fun e => hne e.symm)
  exact ⟨(World.cell?_of_block (w := w) (a := ⟨b, 0, none⟩) hb).trans h.1, (World.cell?_of_block (w := w) (a := ⟨b, 1, none⟩) hb).trans h.2.1, Nat.lt_of_lt_of_le h.2.2.1 hg.size, (World.frozen?_of_block (w := w) (a := ⟨b, 0, none⟩) hb).trans h.2.2.2.1, (World.frozen?_of_block (w := w) (a := ⟨b, 1, none⟩) hb).trans h.2.2.2.2⟩
theorem has2_far {w : World} {b g i : Nat} {x y : Value} (h : Has2 w b x y) (hne : b ≠ g) (u : Value) : Has2 (w.setCell ⟨g, i, none⟩ u) b x y :=
  has2_grown h (grown_set w g i u) (fun e => hne (Option.some.inj e).symm)
theorem has2_put1 {w : World} {b : Nat} {x y u : Value} (h : Has2 w b x y) : Has2 (w.setCell ⟨b, 1, none⟩ u) b x u := by
  obtain ⟨h0, h1, h2, h3, h4⟩ := h
  exact ⟨by rw [World.cell?_setCell_other _ _ _ _ (by simp)]; exact h0, World.cell?_setCell_same _ _ _ h1, by simpa using h2, by rw [World.frozen?_setCell]; exact h3, by rw [World.frozen?_setCell]; exact h4⟩
theorem has2_put0 {w : World} {b : Nat} {x y u : Value} (h : Has2 w b x y) : Has2 (w.setCell ⟨b, 0, none⟩ u) b u y := by
  obtain ⟨h0, h1, h2, h3, h4⟩ := h
  exact ⟨World.cell?_setCell_same _ _ _ h0, by rw [World.cell?_setCell_other _ _ _ _ (by simp)]; exact h1, by simpa using h2, by rw [World.frozen?_setCell]; exact h3, by rw [World.frozen?_setCell]; exact h4⟩
theorem pick_bd (l : List UInt8) (zs : List Int) (s : St) (m : Int) (h0 : 0 ≤ m) (h : ∀ z ∈ zs, -m ≤ z ∧ z ≤ m) : -m ≤ (pickF l zs s).1 ∧ (pickF l zs s).1 ≤ m := by
  unfold pickF
  show -m ≤ zs.getD _ 0 ∧ zs.getD _ 0 ≤ m
  generalize (belowF l (zs.length : Nat) s).1.toNat = k
  rw [List.getD_eq_getElem?_getD]
  cases hk : zs[k]? with
  | none => exact ⟨by show -m ≤ 0; omega, h0⟩
  | some z => exact h z (List.mem_of_getElem? hk)
/-- A draw out of a list that the call has just laid. -/
def Picked (m : Int) (c : Nat) (sv : Value) (l : List UInt8) (w : World) (e : Ending) (w' : World) : Prop :=
  ∃ (x : Int) (s : St), e = .returned (.int .i64 x) ∧ (-m ≤ x ∧ x ≤ m) ∧ Cu w' c sv l s ∧ w.grownBy w' (some c)
theorem pick_list (c : Nat) (sv : Value) (l : List UInt8) (s : St) (w : World) (hc : Cu w c sv l s) (n : Nat) (zs : List Int) (m : Int) (hn : zs.length = n) (h1 : 1 ≤ n) (h2 : n ≤ 1000) (h0 : 0 ≤ m) (hm : ∀ z ∈ zs, -m ≤ z ∧ z ≤ m) (cs : Array Value) (hcs : cs = (zs.map (Value.int .i64)).toArray) :
    Calls Try.prog 117 #[.pointer (some ⟨c, 0, none⟩), .slice (some ⟨w.heap.size, 0, none⟩) n n] (w.alloc (.cells cs 3)) (Picked m c sv l (w.alloc (.cells cs 3))) := by
  subst hn hcs
  have hlt : c < w.heap.size := hc.lt
  refine (pick_any c sv l s _ (hc.below (B := w.heap.size) ((Below.refl _ _).alloc (Nat.le_refl _) _) hlt) w.heap.size zs.length zs h1 h2 (by omega) ?_).mono ?_
  · intro j hj
    refine (World.cell?_alloc_at _ _ _ _ rfl).trans ?_
    exact list_cell zs j hj
  · rintro e w' ⟨he, h1, h2⟩
    exact ⟨_, _, he, pick_bd l zs s m h0 hm, h1, h2⟩
theorem cu_below {w w' : World} {c : Nat} {sv : Value} {l : List UInt8} {s : St} (hc : Cu w c sv l s) (hb : Below w.heap.size w w') : Cu w' c sv l s := hc.below hb hc.lt
theorem grown_bel {w a b : World} {row : Option Nat} (h : w.grownBy a row) (g : Below a.heap.size a b) : w.grownBy b row :=
  ⟨g.os.trans h.os, g.tape.trans h.tape, g.output.trans h.output, Nat.le_trans h.size g.size, fun k hk hne => (g.block k (Nat.lt_of_lt_of_le hk h.size)).trans (h.block k hk hne)⟩

set_option maxHeartbeats 1000000 in
theorem draw_rat (c : Nat) (sv : Value) (l : List UInt8) (s : St) (w : World) (hc : Cu w c sv l s) :
    Calls Try.prog 118 #[.pointer (some ⟨c, 0, none⟩)] w (RatAt 1000000000 c sv l w) := by
  have hcw := hc.lt
  have K := hid (has2_new w (.int .i64 0) (.int .i64 0) 35)
  have C := hid (hc.below (B := w.heap.size) ((Below.refl _ _).alloc (Nat.le_refl _) (.cells #[.int .i64 0, .int .i64 0] 35)) hcw)
  have G := hid (World.grownBy_alloc w (.cells #[.int .i64 0, .int .i64 0] 35) (some c))
  clear hc
  go_enter Try.func118, Try.ntmps118
  go_wp2_with fail
  refine (below_pos c 41 sv l s _ C.out (by omega) (by omega)).mono ?_
  rintro e w1 ⟨x1, s1, rfl, hx1, C1, g1⟩
  replace K := hid (has2_grown K.out g1 (fun e => by have e2 := Option.some.inj e; omega))
  replace G := hid (Cur.grown_trans G.out g1)
  replace C := hid C1
  clear C1 g1
  go_wp2_with fail
  refine (below_pos c 12 sv l s1 _ C.out (by omega) (by omega)).mono ?_
  rintro e w2 ⟨x2, s2, rfl, hx2, C1, g1⟩
  replace K := hid (has2_grown K.out g1 (fun e => by have e2 := Option.some.inj e; omega))
  replace G := hid (Cur.grown_trans G.out g1)
  replace C := hid C1
  clear C1 g1
  have N := hid fun W => spec_new ((x1 : Int) - 20) (1 + (x2 : Int)) W (by omega) (by omega) (by omega) (by omega)
  have hbd := rx_bd ((x1 : Int) - 20) (1 + (x2 : Int))
  simp only [ratEnd_is] at N
  generalize rx (nok ((x1 : Int) - 20) (1 + (x2 : Int))) (nx ((x1 : Int) - 20) (1 + (x2 : Int))) = X at N hbd
  generalize rx (nok ((x1 : Int) - 20) (1 + (x2 : Int))) (ny ((x1 : Int) - 20) (1 + (x2 : Int))) = Y at N hbd
  generalize nok ((x1 : Int) - 20) (1 + (x2 : Int)) = ok at N
  go_wp2_with fail
  refine (N.out _).mono ?_
  rintro e w3 ⟨rfl, hb⟩
  replace K := hid (K.out.below hb)
  replace G := hid (grown_bel G.out hb)
  replace C := hid (cu_below C.out hb)
  clear hb N
  have hcw3 := C.out.lt
  have hz3 := K.out.2.2.1
  have O := hid (has2_new w3 (.int .i64 X) (.int .i64 Y) 35)
  replace K := hid (K.out.alloc (.cells #[.int .i64 X, .int .i64 Y] 35))
  replace G := hid (Cur.grown_trans G.out (World.grownBy_alloc w3 (.cells #[.int .i64 X, .int .i64 Y] 35) (some c)))
  replace C := hid (C.out.below (B := w3.heap.size) ((Below.refl _ _).alloc (Nat.le_refl _) (.cells #[.int .i64 X, .int .i64 Y] 35)) hcw3)
  go_wp2_with fail
  refine (toss c 12 sv l s2 _ C.out (by omega)).mono ?_
  rintro e w4 ⟨b, s4, rfl, C1, g1⟩
  replace K := hid (has2_grown K.out g1 (fun e => by have e2 := Option.some.inj e; omega))
  replace O := hid (has2_grown O.out g1 (fun e => by have e2 := Option.some.inj e; omega))
  replace G := hid (Cur.grown_trans G.out g1)
  replace C := hid C1
  clear C1 g1
  cases b with
  | false =>
    have hr := hid (K.out.set (u := .int .i64 X) (v := .int .i64 Y))
    have hC2 := hid (cu_set (i := 1) (cu_set (i := 0) C.out hcw (.int .i64 X)) hcw (.int .i64 Y))
    have hG2 := hid (grown_far (b := w.heap.size) (i := 1) (grown_far (b := w.heap.size) (i := 0) G.out (Nat.le_refl _) (.int .i64 X)) (Nat.le_refl _) (.int .i64 Y))
    obtain ⟨o0, o1, oz, of0, of1⟩ := O.out
    obtain ⟨k0, k1, kz, kf0, kf1⟩ := K.out
    obtain ⟨r0, r1⟩ := hr.out
    go_wp2
    exact bodyPost_ret (v := .agg #[.int .i64 X, .int .i64 Y]) (by simp [results, Try.results118, go_sem, r0, r1]) rfl ⟨X, Y, s4, rfl, hbd.1, hbd.2, hC2.out, hG2.out⟩
  | true =>
    go_wp2_with fail
    refine (pick_list c sv l s4 w4 C.out 4 [1000000000, -1000000000, 999999937, 1] 1000000000 rfl (by omega) (by omega) (by omega) (by decide) _ rfl).mono ?_
    rintro e w5 ⟨z1, s5, rfl, hz1b, C1, g1⟩
    have g2 := Cur.grown_trans (World.grownBy_alloc w4 (.cells #[.int .i64 1000000000, .int .i64 (-1000000000), .int .i64 999999937, .int .i64 1] 3) (some c)) g1
    replace K := hid (has2_grown K.out g2 (fun e => by have e2 := Option.some.inj e; omega))
    replace O := hid (has2_grown O.out g2 (fun e => by have e2 := Option.some.inj e; omega))
    replace G := hid (Cur.grown_trans G.out g2)
    replace C := hid C1
    clear C1 g1 g2
    go_wp2_with fail
    refine (pick_list c sv l s5 w5 C.out 3 [1, 1000000000, 999999893] 1000000000 rfl (by omega) (by omega) (by omega) (by decide) _ rfl).mono ?_
    rintro e w6 ⟨z2, s6, rfl, hz2b, C1, g1⟩
    have g2 := Cur.grown_trans (World.grownBy_alloc w5 (.cells #[.int .i64 1, .int .i64 1000000000, .int .i64 999999893] 3) (some c)) g1
    replace K := hid (has2_grown K.out g2 (fun e => by have e2 := Option.some.inj e; omega))
    replace O := hid (has2_grown O.out g2 (fun e => by have e2 := Option.some.inj e; omega))
    replace G := hid (Cur.grown_trans G.out g2)
    replace C := hid C1
    clear C1 g1 g2
    have N := hid fun W => spec_new z1 z2 W (by omega) (by omega) (by omega) (by omega)
    have hbd2 := rx_bd z1 z2
    simp only [ratEnd_is] at N
    generalize rx (nok z1 z2) (nx z1 z2) = X2 at N hbd2
    generalize rx (nok z1 z2) (ny z1 z2) = Y2 at N hbd2
    generalize nok z1 z2 = ok2 at N
    go_wp2_with fail
    refine (N.out _).mono ?_
    rintro e w7 ⟨rfl, hb⟩
    replace K := hid (K.out.below hb)
    replace O := hid (O.out.below hb)
    replace G := hid (grown_bel G.out hb)
    replace C := hid (cu_below C.out hb)
    clear hb N
    have O2 := hid (has2_put1 (u := .int .i64 Y2) (has2_put0 (u := .int .i64 X2) O.out))
    have K2 := hid (has2_far (i := 1) (has2_far (i := 0) K.out (show w.heap.size ≠ w3.heap.size by omega) (.int .i64 X2)) (show w.heap.size ≠ w3.heap.size by omega) (.int .i64 Y2))
    have hr := hid (K2.out.set (u := .int .i64 X2) (v := .int .i64 Y2))
    have hC2 := hid (cu_set (i := 1) (cu_set (i := 0) (cu_set (i := 1) (cu_set (i := 0) C.out hcw3 (.int .i64 X2)) hcw3 (.int .i64 Y2)) hcw (.int .i64 X2)) hcw (.int .i64 Y2))
    have hG2 := hid (grown_far (b := w.heap.size) (i := 1) (grown_far (b := w.heap.size) (i := 0) (grown_far (b := w3.heap.size) (i := 1) (grown_far (b := w3.heap.size) (i := 0) G.out (by omega) (.int .i64 X2)) (by omega) (.int .i64 Y2)) (Nat.le_refl _) (.int .i64 X2)) (Nat.le_refl _) (.int .i64 Y2))
    obtain ⟨o0, o1, oz, of0, of1⟩ := O.out
    obtain ⟨p0, p1, pz, pf0, pf1⟩ := O2.out
    obtain ⟨k0, k1, kz, kf0, kf1⟩ := K2.out
    obtain ⟨r0, r1⟩ := hr.out
    go_wp2
    exact bodyPost_ret (v := .agg #[.int .i64 X2, .int .i64 Y2]) (by simp [results, Try.results118, go_sem, r0, r1]) rfl ⟨X2, Y2, s6, rfl, hbd2.1, hbd2.2, hC2.out, hG2.out⟩

set_option maxHeartbeats 1000000 in
theorem draw_any (c : Nat) (sv : Value) (l : List UInt8) (s : St) (w : World) (hc : Cu w c sv l s) :
    Calls Try.prog 92 #[.pointer (some ⟨c, 0, none⟩)] w (RatAt 3000000000 c sv l w) := by
  have hcw := hc.lt
  have K := hid (has2_new w (.int .i64 0) (.int .i64 0) 35)
  have C := hid (hc.below (B := w.heap.size) ((Below.refl _ _).alloc (Nat.le_refl _) (.cells #[.int .i64 0, .int .i64 0] 35)) hcw)
  have G := hid (World.grownBy_alloc w (.cells #[.int .i64 0, .int .i64 0] 35) (some c))
  clear hc
  go_enter Try.func92, Try.ntmps92
  go_wp2_with fail
  refine (draw_rat c sv l s _ C.out).mono ?_
  rintro e w3 ⟨X, Y, s1, rfl, hX, hY, C1, g1⟩
  replace K := hid (has2_grown K.out g1 (fun e => by have e2 := Option.some.inj e; omega))
  replace G := hid (Cur.grown_trans G.out g1)
  replace C := hid C1
  clear C1 g1
  have hcw3 := C.out.lt
  have hz3 := K.out.2.2.1
  obtain ⟨hX0, hX1⟩ := hX
  obtain ⟨hY0, hY1⟩ := hY
  have O := hid (has2_new w3 (.int .i64 X) (.int .i64 Y) 35)
  replace K := hid (K.out.alloc (.cells #[.int .i64 X, .int .i64 Y] 35))
  replace G := hid (Cur.grown_trans G.out (World.grownBy_alloc w3 (.cells #[.int .i64 X, .int .i64 Y] 35) (some c)))
  replace C := hid (C.out.below (B := w3.heap.size) ((Below.refl _ _).alloc (Nat.le_refl _) (.cells #[.int .i64 X, .int .i64 Y] 35)) hcw3)
  go_wp2_with fail
  refine (below_pos c 14 sv l s1 _ C.out (by omega) (by omega)).mono ?_
  rintro e w4 ⟨t, s4, rfl, ht, C1, g1⟩
  replace K := hid (has2_grown K.out g1 (fun e => by have e2 := Option.some.inj e; omega))
  replace O := hid (has2_grown O.out g1 (fun e => by have e2 := Option.some.inj e; omega))
  replace G := hid (Cur.grown_trans G.out g1)
  replace C := hid C1
  clear C1 g1
  by_cases h0 : t = 0
  · subst h0
    go_wp2_with fail
    refine (pick_list c sv l s4 w4 C.out 3 [0, -1, 1000000001] 3000000000 rfl (by omega) (by omega) (by omega) (by decide) _ rfl).mono ?_
    rintro e w5 ⟨z, s5, rfl, ⟨hz0, hz1⟩, C1, g1⟩
    have g2 := Cur.grown_trans (World.grownBy_alloc w4 (.cells #[.int .i64 0, .int .i64 (-1), .int .i64 1000000001] 3) (some c)) g1
    replace K := hid (has2_grown K.out g2 (fun e => by have e2 := Option.some.inj e; omega))
    replace O := hid (has2_grown O.out g2 (fun e => by have e2 := Option.some.inj e; omega))
    replace G := hid (Cur.grown_trans G.out g2)
    replace C := hid C1
    clear C1 g1 g2
    have O2 := hid (has2_put1 (u := .int .i64 z) O.out)
    have K2 := hid (has2_far (i := 1) K.out (show w.heap.size ≠ w3.heap.size by omega) (.int .i64 z))
    have hr := hid (K2.out.set (u := .int .i64 X) (v := .int .i64 z))
    have hC2 := hid (cu_set (i := 1) (cu_set (i := 0) (cu_set (i := 1) C.out hcw3 (.int .i64 z)) hcw (.int .i64 X)) hcw (.int .i64 z))
    have hG2 := hid (grown_far (b := w.heap.size) (i := 1) (grown_far (b := w.heap.size) (i := 0) (grown_far (b := w3.heap.size) (i := 1) G.out (by omega) (.int .i64 z)) (Nat.le_refl _) (.int .i64 X)) (Nat.le_refl _) (.int .i64 z))
    obtain ⟨o0, o1, oz, of0, of1⟩ := O.out
    obtain ⟨p0, p1, pz, pf0, pf1⟩ := O2.out
    obtain ⟨k0, k1, kz, kf0, kf1⟩ := K2.out
    obtain ⟨r0, r1⟩ := hr.out
    go_wp2
    exact bodyPost_ret (v := .agg #[.int .i64 X, .int .i64 z]) (by simp [results, Try.results92, go_sem, r0, r1]) rfl ⟨X, z, s5, rfl, ⟨by omega, by omega⟩, ⟨by omega, by omega⟩, hC2.out, hG2.out⟩
  · by_cases h1 : t = 1
    · subst h1
      have OO := O
      obtain ⟨o0, o1, oz, of0, of1⟩ := O.out
      go_wp2_with fail
      refine (pick_list c sv l s4 w4 C.out 3 [1000000001, -1000000001, 2 * Y] 3000000000 rfl (by omega) (by omega) (by omega) (by
        intro q hq
        simp only [List.mem_cons, List.not_mem_nil, or_false] at hq
        rcases hq with rfl | rfl | rfl <;> omega) _ rfl).mono ?_
      rintro e w5 ⟨z, s5, rfl, ⟨hz0, hz1⟩, C1, g1⟩
      have g2 := Cur.grown_trans (World.grownBy_alloc w4 (.cells #[.int .i64 1000000001, .int .i64 (-1000000001), .int .i64 (2 * Y)] 3) (some c)) g1
      replace K := hid (has2_grown K.out g2 (fun e => by have e2 := Option.some.inj e; omega))
      replace O := hid (has2_grown OO.out g2 (fun e => by have e2 := Option.some.inj e; omega))
      replace G := hid (Cur.grown_trans G.out g2)
      replace C := hid C1
      clear C1 g1 g2 o0 o1 oz of0 of1 OO
      have O2 := hid (has2_put0 (u := .int .i64 z) O.out)
      have K2 := hid (has2_far (i := 0) K.out (show w.heap.size ≠ w3.heap.size by omega) (.int .i64 z))
      have hr := hid (K2.out.set (u := .int .i64 z) (v := .int .i64 Y))
      have hC2 := hid (cu_set (i := 1) (cu_set (i := 0) (cu_set (i := 0) C.out hcw3 (.int .i64 z)) hcw (.int .i64 z)) hcw (.int .i64 Y))
      have hG2 := hid (grown_far (b := w.heap.size) (i := 1) (grown_far (b := w.heap.size) (i := 0) (grown_far (b := w3.heap.size) (i := 0) G.out (by omega) (.int .i64 z)) (Nat.le_refl _) (.int .i64 z)) (Nat.le_refl _) (.int .i64 Y))
      obtain ⟨o0, o1, oz, of0, of1⟩ := O.out
      obtain ⟨p0, p1, pz, pf0, pf1⟩ := O2.out
      obtain ⟨k0, k1, kz, kf0, kf1⟩ := K2.out
      obtain ⟨r0, r1⟩ := hr.out
      go_wp2
      exact bodyPost_ret (v := .agg #[.int .i64 z, .int .i64 Y]) (by simp [results, Try.results92, go_sem, r0, r1]) rfl ⟨z, Y, s5, rfl, ⟨by omega, by omega⟩, ⟨by omega, by omega⟩, hC2.out, hG2.out⟩
    · have t0 : ((t : Int) == 0) = false := by rw [beq_eq_false_iff_ne]; omega
      have t1 : ((t : Int) == 1) = false := by rw [beq_eq_false_iff_ne]; omega
      have hr := hid (K.out.set (u := .int .i64 X) (v := .int .i64 Y))
      have hC2 := hid (cu_set (i := 1) (cu_set (i := 0) C.out hcw (.int .i64 X)) hcw (.int .i64 Y))
      have hG2 := hid (grown_far (b := w.heap.size) (i := 1) (grown_far (b := w.heap.size) (i := 0) G.out (Nat.le_refl _) (.int .i64 X)) (Nat.le_refl _) (.int .i64 Y))
      obtain ⟨o0, o1, oz, of0, of1⟩ := O.out
      obtain ⟨k0, k1, kz, kf0, kf1⟩ := K.out
      obtain ⟨r0, r1⟩ := hr.out
      go_wp2
      exact bodyPost_ret (v := .agg #[.int .i64 X, .int .i64 Y]) (by simp [results, Try.results92, go_sem, r0, r1]) rfl ⟨X, Y, s4, rfl, ⟨by omega, by omega⟩, ⟨by omega, by omega⟩, hC2.out, hG2.out⟩

end Go.Proofs.Ytjnphlgmmjdeiaa.DrawRat

namespace Go.Proofs.Ytjnphlgmmjdeiaa.Draw13
open Go.RowKit
open Go.Proofs.Ytjnphlgmmjdeiaa.Num Go.Proofs.Ytjnphlgmmjdeiaa.Row Go.Proofs.Ytjnphlgmmjdeiaa.Cur Go.Proofs.Ytjnphlgmmjdeiaa.Draw Go.Proofs.Ytjnphlgmmjdeiaa.Pick Go.Proofs.Ytjnphlgmmjdeiaa.Rat Go.Proofs.Ytjnphlgmmjdeiaa.New Go.Proofs.Ytjnphlgmmjdeiaa.RatLaw Go.Proofs.Ytjnphlgmmjdeiaa.Cells Go.Proofs.Ytjnphlgmmjdeiaa.Rdr Go.Proofs.Ytjnphlgmmjdeiaa.HasL Go.Proofs.Ytjnphlgmmjdeiaa.Rats Go.Proofs.Ytjnphlgmmjdeiaa.RatRow Go.Proofs.Ytjnphlgmmjdeiaa.RatOwn Go.Proofs.Ytjnphlgmmjdeiaa.GridQ Go.Proofs.Ytjnphlgmmjdeiaa.GridQ2 Go.Proofs.Ytjnphlgmmjdeiaa.RatsSS Go.Proofs.Ytjnphlgmmjdeiaa.DrawRat
open Go.Proofs.Ytjnphlgmmjdeiaa.DrawBig (below_pos toss Drew Tossed list_cell grown_fresh grown_far grown_dr cu_set cu_grown)
open Go.Proofs.Ytjnphlgmmjdeiaa.GridMore (Under)
set_option linter.unusedVariables false

def SmallAt (c : Nat) (sv : Value) (l : List UInt8) (w : World) (e : Ending) (w' : World) : Prop :=
  ∃ (x y : Int) (s : St), e = .returned (.agg #[.int .i64 x, .int .i64 y]) ∧ (Ib x ∧ Ib y) ∧ Cu w' c sv l s ∧ w.grownBy w' (some c)
set_option maxHeartbeats 1000000 in
theorem small (c : Nat) (sv : Value) (l : List UInt8) (s : St) (w : World) (hc : Cu w c sv l s) :
    Calls Try.prog 91 #[.pointer (some ⟨c, 0, none⟩)] w (SmallAt c sv l w) := by
  have hcw := hc.lt
  have K := hid (has2_new w (.int .i64 0) (.int .i64 0) 35)
  have C := hid (hc.below (B := w.heap.size) ((Below.refl _ _).alloc (Nat.le_refl _) (.cells #[.int .i64 0, .int .i64 0] 35)) hcw)
  have G := hid (World.grownBy_alloc w (.cells #[.int .i64 0, .int .i64 0] 35) (some c))
  clear hc
  go_enter Try.func91, Try.ntmps91
  go_wp2_with fail
  refine (below_pos c 7 sv l s _ C.out (by omega) (by omega)).mono ?_
  rintro e w1 ⟨x1, s1, rfl, hx1, C1, g1⟩
  replace K := hid (has2_grown K.out g1 (fun e => by have e2 := Option.some.inj e; omega))
  replace G := hid (Cur.grown_trans G.out g1)
  replace C := hid C1
  clear C1 g1
  go_wp2_with fail
  refine (pick_list c sv l s1 _ C.out 5 [1, 1, 1, 2, 3] 3 rfl (by omega) (by omega) (by omega) (by decide) _ (by rfl)).mono ?_
  rintro e w2 ⟨x2, s2, rfl, hx2, C1, g1⟩
  replace K := hid (has2_grown (K.out.alloc (.cells #[.int .i64 1, .int .i64 1, .int .i64 1, .int .i64 2, .int .i64 3] 3)) g1 (fun e => by have e2 := Option.some.inj e; omega))
  replace G := hid (Cur.grown_trans (Cur.grown_trans G.out (World.grownBy_alloc w1 (.cells #[.int .i64 1, .int .i64 1, .int .i64 1, .int .i64 2, .int .i64 3] 3) (some c))) g1)
  replace C := hid C1
  clear C1 g1
  have N := hid fun W => spec_new ((x1 : Int) - 3) x2 W (by omega) (by omega) (by omega) (by omega)
  have hbd := rx_bd ((x1 : Int) - 3) x2
  simp only [ratEnd_is] at N
  generalize rx (nok ((x1 : Int) - 3) x2) (nx ((x1 : Int) - 3) x2) = X at N hbd
  generalize rx (nok ((x1 : Int) - 3) x2) (ny ((x1 : Int) - 3) x2) = Y at N hbd
  generalize nok ((x1 : Int) - 3) x2 = ok at N
  go_wp2_with fail
  refine (N.out _).mono ?_
  rintro e w3 ⟨rfl, hb⟩
  replace K := hid (K.out.below hb)
  replace G := hid (grown_bel G.out hb)
  replace C := hid (cu_below C.out hb)
  clear hb N
  have hcw3 := C.out.lt
  have O := hid (has2_new w3 (.int .i64 X) (.int .i64 Y) 35)
  replace K := hid (K.out.alloc (.cells #[.int .i64 X, .int .i64 Y] 35))
  replace G := hid (Cur.grown_trans G.out (World.grownBy_alloc w3 (.cells #[.int .i64 X, .int .i64 Y] 35) (some c)))
  replace C := hid (C.out.below (B := w3.heap.size) ((Below.refl _ _).alloc (Nat.le_refl _) (.cells #[.int .i64 X, .int .i64 Y] 35)) hcw3)
  have KS := hid (K.out.set (u := .int .i64 X) (v := .int .i64 Y))
  have CS := hid (cu_set (i := 1) (cu_set (i := 0) C.out hcw (.int .i64 X)) hcw (.int .i64 Y))
  have GS := hid (grown_far (b := w.heap.size) (i := 1) (grown_far (b := w.heap.size) (i := 0) G.out (Nat.le_refl _) (.int .i64 X)) (Nat.le_refl _) (.int .i64 Y))
  obtain ⟨o0, o1, o2, o3, o4⟩ := O.out
  obtain ⟨k0, k1, k2, k3, k4⟩ := K.out
  clear O K C G
  go_wp2_with fail
  exact bodyPost_ret (v := .agg #[.int .i64 X, .int .i64 Y]) (by simp [results, Try.results91, go_sem, KS.out.1, KS.out.2]) rfl ⟨X, Y, s2, rfl, ⟨⟨by omega, by omega⟩, ⟨by omega, by omega⟩⟩, CS.out, GS.out⟩

theorem grown_low {w a b : World} {row : Option Nat} (h : w.grownBy a row) (g : Below w.heap.size a b) : w.grownBy b row :=
  ⟨g.os.trans h.os, g.tape.trans h.tape, g.output.trans h.output, Nat.le_trans h.size g.size, fun k hk hne => (g.block k hk).trans (h.block k hk hne)⟩
theorem OwnR.moved {w w' : World} {base c : Nat} {e : TypeId} {v : Value} {xs : List RatD} (h : OwnR w base e v xs) (hg : w.grownBy w' (some c)) (hc : c < base) : OwnR w' base e v xs :=
  World.ownsRow.kept h hg (.inr (fun e => by have := (h.lt c e).1; omega))
/-- Some matrix of the call's own, n rows of up to m + 1; the cursor moved. -/
def RowsAt (n m c : Nat) (sv : Value) (l : List UInt8) (w : World) (e : Ending) (w' : World) : Prop :=
  ∃ (a : Option Addr) (cap : Nat) (vs : List Value) (xss : MatD) (s : St), e = .returned (.slice a n cap) ∧ xss.length = n ∧ (∀ j (hj : j < xss.length), xss[j].length ≤ m + 1) ∧ GOwnQ w' w.heap.size tQ tR (.slice a n cap) vs xss ∧ Cu w' c sv l s ∧ w.grownBy w' (some c)

/-- All rows but the last lie below block H, the last one from there on. -/
def Lasts (vs : List Value) (k H : Nat) : Prop := (∀ (i : Nat) (u : Value), i + 1 < k → vs[i]? = some u → ∀ q, u.ownBlock = some q → q < H) ∧ (∀ u, vs[k - 1]? = some u → ∀ q, u.ownBlock = some q → H ≤ q)

set_option maxRecDepth 100000 in
set_option maxHeartbeats 2000000 in
theorem draw_rows (c n m : Nat) (sv : Value) (l : List UInt8) (s : St) (w : World) (hn : n ≤ 8) (hm : m ≤ 8) (hc : Cu w c sv l s) :
    Calls Try.prog 56 #[.pointer (some ⟨c, 0, none⟩), .int .i64 n, .int .i64 m] w (RowsAt n m c sv l w) := by
  obtain ⟨i0, hi0, hz0, hz1, hz2⟩ := info_parts infoRow
  obtain ⟨i1, hi1, hy0, hy1, hy2⟩ := info_parts infoRat
  have hcw := hc.lt
  have C0 := hid (hc.below (B := w.heap.size) ((Below.refl _ _).alloc (Nat.le_refl _) (.cells #[] tQ)) hcw)
  have G0 := hid (World.grownBy_alloc w (.cells #[] tQ) (some c))
  have O0 := hid (show GOwnQ (w.alloc (.cells #[] tQ)) w.heap.size tQ tR (.slice (some ⟨w.heap.size, 0, none⟩) 0 0) [] [] from ⟨rfl, World.ownsRow_made w #[] 0 (Nat.le_refl _) (by decide) (by decide), fun j h => by simp at h, fun i j u u' k _ h => by simp at h⟩)
  clear hc
  go_enter Try.func56, Try.ntmps56
  go_wp2_with fail
  go_loopw [7, 8] (fun v _ wr => ∃ (a : Option Addr) (cap : Nat) (vs : List Value) (xss : MatD) (s : St) (k H : Nat), v = .slice a k cap ∧ k ≤ n ∧ w.heap.size ≤ H ∧ H ≤ wr.heap.size ∧ Hid (Lasts vs k H) ∧ Hid (xss.length = k) ∧ Hid (∀ j (hj : j < xss.length), xss[j].length = m) ∧ Hid (GOwnQ wr w.heap.size tQ tR (.slice a k cap) vs xss) ∧ Hid (Cu wr c sv l s) ∧ Hid (w.grownBy wr (some c))) (fun v _ _ => n - (match v with | .slice _ k _ => k | _ => 0))
  case atStart => exact ⟨_, 0, [], [], s, 0, w.heap.size, rfl, Nat.zero_le _, Nat.le_refl _, by simp, hid ⟨fun i u hi hu => by simp at hu, fun u hu => by simp at hu⟩, hid rfl, hid (fun j hj => by simp at hj), O0, C0, G0⟩
  case round =>
    obtain ⟨a, cap, vs, xss, s1, k, H, rfl, hkn, hH0, hH1, hlast, hxl, hrows, ho, hc, hg⟩ := hrel
    clear C0 G0 O0
    have hsz := hg.out.size
    by_cases hlt : k < n
    · have hlt' : (k : Int) < (n : Int) := by omega
      have hcr := hc.out.lt
      have R0 := hid (show OwnR (wr.alloc (.cells #[] 35)) wr.heap.size 35 (.slice (some ⟨wr.heap.size, 0, none⟩) 0 0) [] from ownR_lit wr wr.heap.size 35 (Nat.le_refl _))
      have RC := hid (cu_below hc.out ((Below.refl _ _).alloc (Nat.le_refl _) (.cells #[] 35)))
      have RG := hid (World.grownBy_alloc wr (.cells #[] 35) (some c))
      go_wp2_with fail
      obtain ⟨w5, rfl⟩ : ∃ wo : World, wo = wr := ⟨_, rfl⟩
      go_loopw [8] (fun v wr => ∃ (a : Option Addr) (cap : Nat) (xs : List RatD) (s : St) (q : Nat), v = .slice a q cap ∧ q ≤ m ∧ Hid (xs.length = q) ∧ Hid (IbA xs) ∧ Hid (OwnR wr w5.heap.size 35 (.slice a q cap) xs) ∧ Hid (Cu wr c sv l s) ∧ Hid (w5.grownBy wr (some c))) (fun v _ => m - (match v with | .slice _ k _ => k | _ => 0))
      case atStart => exact ⟨_, 0, [], s1, 0, rfl, Nat.zero_le _, hid rfl, hid iba_nil, R0, RC, RG⟩
      case round =>
        obtain ⟨a2, cap2, xs, s2, q, rfl, hqm, hql, hib, hr, hc2, hg2⟩ := hrel
        clear R0 RC RG
        have hsz2 := hg2.out.size
        by_cases hqlt : q < m
        · have hqlt' : (q : Int) < (m : Int) := by omega
          go_wp2_with fail
          refine (small c sv l s2 _ hc2.out).mono ?_
          rintro e w6 ⟨X, Y, s3, rfl, hbd, C1, g1⟩
          have hs6 := g1.size
          have G6 := hid (Cur.grown_trans hg2.out g1)
          have O4 := hid (OwnR.moved hr.out g1 hcr)
          have C6 := hid C1
          have HA := hid (iba_snoc (p := (X, Y)) hib.out hbd)
          have hl5 : (xs ++ [(X, Y)]).length = q + 1 := by rw [List.length_append, hql.out]; rfl
          have HL := hid hl5
          have hxq : xs.length ≤ 4398046511104 := by rw [hql.out]; omega
          have hb6 : w5.heap.size ≤ w6.heap.size := by omega
          clear hr hc2 hg2 C1 g1 hib hl5 hql
          go_wp2_with (at_builtin; refine append_rat rfl _ _ 25 rfl w5.heap.size 35 i1 Try.underlying25 hi1 hy0 hy1 hy2 w6 _ xs (X, Y) O4.out (by rfl) hb6 (by rfl) hxq ?_)
          intro v1 w7 hown1 hbel1 hsz7
          obtain ⟨a5, cap5, hv5, _⟩ := hown1.els HA.out
          rw [HL.out] at hv5
          subst hv5
          have HO := hid hown1
          have HG := hid (grown_low G6.out hbel1)
          have HC := hid (C6.out.below hbel1 hcr)
          clear hown1 hbel1 G6 O4 C6
          go_wp2_with fail
          go_roundw
          case rel => exact ⟨a5, cap5, xs ++ [(X, Y)], s3, q + 1, by rfl, by omega, HL, HA, HO, HC, HG⟩
          case measure => simp; omega
        · have hqlt' : ¬ (q : Int) < (m : Int) := by omega
          have hqm2 : q = m := by omega
          subst hqm2
          have GO := hid (ho.out.moved hg2.out hcw)
          have HU := hid (show OwnQ wr w5.heap.size tR (.slice a2 q cap2) xs from ⟨hr.out, hib.out⟩)
          have hfar : Hid (∀ u' ∈ vs, Far (.slice a2 q cap2) u') := hid (fun u' hu' p hp hp' => by
            obtain ⟨i, hi⟩ := List.getElem?_of_mem hu'
            have h1 := (ho.out.lt_row hi p hp').2
            have h2 := (HU.out.lt p hp).1
            omega)
          have hxk : xss.length ≤ 1048576 := by rw [hxl.out]; omega
          have hloW : w.heap.size ≤ wr.heap.size := by omega
          have hG9 := hid (Cur.grown_trans hg.out hg2.out)
          have hvl := hid (show vs.length = k by rw [ho.out.len]; exact hxl.out)
          clear hxl hql
          go_wp2_with (at_builtin; refine wpList_headQ rfl _ _ 24 rfl tQ tR tQR i0 Try.underlying24 hi0 hz0 hz1 hz2 wr w.heap.size (.slice a k cap) (.slice a2 q cap2) vs xss xs rfl GO.out (HU.out.mono hsz) hfar.out rfl hxk hloW ?_)
          intro v' w8 hg3 hgr3 hs8
          obtain ⟨a9, cap9, hv9, _⟩ := hg3.form
          have hl9 : (xss ++ [xs]).length = k + 1 := by rw [List.length_append, ← ho.out.len, hvl.out]; rfl
          rw [hl9] at hv9
          subst hv9
          have HG3 := hid hg3
          have HL9 := hid hl9
          have HC := hid (cu_grown hc2.out hgr3 (fun p hp => Nat.lt_of_lt_of_le hcw (GO.out.lt p hp).1))
          have HG := hid (grown_fresh hG9.out hgr3 (fun p hp => (GO.out.lt p hp).1))
          have HR := hid (show ∀ j (hj : j < (xss ++ [xs]).length), (xss ++ [xs])[j].length = q from fun j hj => by
            by_cases e : j < xss.length
            · rw [List.getElem_append_left e]; exact hrows.out j e
            · rw [List.getElem_append_right (by omega)]
              have := (ownq_rd HU.out).1
              simp only [List.getElem_singleton]
              omega)
          have HLS := hid (show Lasts (vs ++ [.slice a2 q cap2]) (k + 1) w5.heap.size from ⟨fun i u hi hu p hp => by
            have hil : i < vs.length := by rw [hvl.out]; omega
            rw [List.getElem?_append_left hil] at hu
            exact (ho.out.lt_row hu p hp).2, fun u hu p hp => by
            have : (k + 1) - 1 = vs.length := by rw [hvl.out]; rfl
            rw [this, List.getElem?_append_right (Nat.le_refl _), Nat.sub_self] at hu
            simp only [List.getElem?_cons_zero, Option.some.injEq] at hu
            subst hu
            exact (HU.out.lt p hp).1⟩)
          clear hg3 hgr3 hl9 GO HU hfar hG9 hr hc2 hg2 ho hc hg hib hrows hlast hvl
          go_wp2_with fail
          go_roundw
          case rel => exact ⟨a9, cap9, _, _, s2, k + 1, w5.heap.size, by rfl, by omega, hsz, by omega, HLS, HL9, HR, HG3, HC, HG⟩
          case measure => simp; omega
    · have hlt' : ¬ (k : Int) < (n : Int) := by omega
      have hkn2 : k = n := by omega
      subst hkn2
      go_wp2_with fail
      refine (below_pos c 18 sv l s1 _ hc.out (by omega) (by omega)).mono ?_
      rintro e w6 ⟨x, s2, rfl, hx, C1, g1⟩
      have hs61 := g1.size
      have G6 := hid (Cur.grown_trans hg.out g1)
      have O6 := hid (ho.out.moved g1 hcw)
      have C6 := hid C1
      clear hc ho hg C1 g1
      have DONE : Hid (∀ (e : Ending) (w' : World) (vs : List Value) (ys : MatD) (s : St), e = .returned (.slice a k cap) → ys.length = k → (∀ j (hj : j < ys.length), ys[j].length ≤ m + 1) → GOwnQ w' w.heap.size tQ tR (.slice a k cap) vs ys → Cu w' c sv l s → w.grownBy w' (some c) → RowsAt k m c sv l w e w') := hid (fun e w' vs ys s h1 h2 h3 h4 h5 h6 => ⟨a, cap, vs, ys, s, h1, h2, h3, h4, h5, h6⟩)
      have hle := hid (fun j (hj : j < xss.length) => show xss[j].length ≤ m + 1 by rw [hrows.out j hj]; omega)
      by_cases hx0 : x = 0
      · subst hx0
        have t0 : (((0 : Nat) : Int) == 0) = true := by simp
        by_cases hnm : 0 < k ∧ 0 < m
        · obtain ⟨hk0, hm0⟩ := hnm
          have hk0' : (0 : Int) < (k : Int) := by omega
          have hm0' : (0 : Int) < (m : Int) := by omega
          have hp0 : 0 < xss.length := by rw [hxl.out]; exact hk0
          have hr0 : 0 < xss[0].length := by rw [hrows.out 0 hp0]; exact hm0
          obtain ⟨g, rfl, hlg⟩ := gownq_at O6.out hp0
          obtain ⟨b0, cap0, hv0, hlb, hle0⟩ := row_block O6.out 0 hp0 hr0
          have c0 := (O6.out.cellAt 0 hp0).trans hv0
          rw [Nat.add_zero, hrows.out 0 hp0] at c0
          rw [hrows.out 0 hp0] at hv0
          have HV0 := hid hv0
          have HC := hid C6.out.drew
          have HQ := hid O6.out.drew
          have HP0 := hid hp0
          have HR0 := hid hr0
          have hcb : c < b0 := by omega
          clear hv0 O6 C6 hle0
          go_wp2
          go_region_law (first
            | (go_simp; go_at_call 92; go_must (refine (draw_any c sv l s2 _ HC.out).mono ?_); rintro e w7 ⟨X, Y, s3, rfl, hbx, hby, C1, g1⟩; have HC3 := hid C1; have HG3 := hid g1; have HQ3 := hid (HQ.out.moved g1 hcw); have d0 := (HQ3.out.cellAt 0 HP0.out).trans HV0.out; rw [Nat.add_zero] at d0; obtain ⟨e0, e1, f0, f1⟩ := row_cells (row_own HQ3.out 0 HP0.out HV0.out) 0 HR0.out; simp only [Nat.zero_mul, Nat.zero_add] at e0 e1 f0 f1; clear C1 g1))
          all_goals
            have S := hid (row_store HQ3.out tQR 0 HP0.out HV0.out 0 HR0.out (X, Y) ⟨⟨by omega, by omega⟩, ⟨by omega, by omega⟩⟩)
            have CS := hid (cu_set (i := 1) (cu_set (i := 0) HC3.out hcb (.int .i64 X)) hcb (.int .i64 Y))
            have GS := hid (grown_far (b := b0) (i := 1) (grown_far (b := b0) (i := 0) (grown_dr G6.out HG3.out) hlb (.int .i64 X)) hlb (.int .i64 Y))
            simp only [Nat.zero_mul, Nat.zero_add] at S
            clear HQ3 HC3 HG3 HC HQ G6
            go_wp2_with fail
            go_ret
            exact DONE.out _ _ _ _ _ rfl (by rw [List.length_set]; exact hxl.out) (fun j hj => by rw [List.length_set] at hj; rw [List.getElem_set]; split <;> (try rw [List.length_set]) <;> exact hle.out _ _) S.out CS.out GS.out
        · by_cases hk0 : 0 < k
          · have hm0 : m = 0 := by omega
            have hk0' : (0 : Int) < (k : Int) := by omega
            have hm0' : ¬ (0 : Int) < (m : Int) := by omega
            clear hnm
            go_wp2_with fail
            go_ret
            exact DONE.out _ _ _ _ _ rfl hxl.out hle.out O6.out C6.out G6.out
          · have hk0' : ¬ (0 : Int) < (k : Int) := by omega
            clear hnm
            go_wp2_with fail
            go_ret
            exact DONE.out _ _ _ _ _ rfl hxl.out hle.out O6.out C6.out G6.out
      · have t0 : ((x : Int) == 0) = false := by simp only [beq_eq_false_iff_ne, ne_eq]; omega
        by_cases hx1 : x = 1
        · subst hx1
          have t1 : (((1 : Nat) : Int) == 1) = true := by simp
          by_cases hk0 : 0 < k
          · have hk0' : (0 : Int) < (k : Int) := by omega
            have hp0 : k - 1 < xss.length := by rw [hxl.out]; omega
            obtain ⟨g, rfl, hlg⟩ := gownq_at O6.out (by omega)
            obtain ⟨aj, capj, hv0, hle0⟩ := row_head O6.out (k - 1) hp0
            have c0 := (O6.out.cellAt (k - 1) hp0).trans hv0
            rw [Nat.zero_add, hrows.out (k - 1) hp0] at c0
            rw [hrows.out (k - 1) hp0] at hv0
            have HV0 := hid hv0
            have HC := hid C6.out.drew
            have HQ := hid O6.out.drew
            have hcg : c < g := by omega
            have hxm : xss[k - 1].length ≤ 4398046511104 := by rw [hrows.out (k - 1) hp0]; omega
            have t9 : (1 : Int) ≤ (k : Int) := by omega
            have hu0 := hid (fun (q : Nat) (hq : (Value.slice aj m capj).ownBlock = some q) => hlast.out.2 _ HV0.out q hq)
            have t5 : IntKind.i64.wrap ((k : Int) - 1) = (k : Int) - 1 := IntWalk.i64_in _ (by omega)
            have t6 : ((k : Int) - 1).toNat = k - 1 := by omega
            have t7 : (0 : Int) ≤ (k : Int) - 1 := by omega
            have t8 : (k : Int) - 1 < (k : Int) := by omega
            have hcw6 := C6.out.lt
            clear hv0 O6 C6 hle0
            go_wp2
            go_region_law (first
              | (refine step_rat rfl _ _ 25 rfl H 35 i1 Try.underlying25 hi1 hy0 hy1 hy2 w7 _ xss[k - 1] (X, Y) HR3.out (by rfl) hz3 (by rfl) hxm ?_; intro v1 w8 hown8 hgr8; obtain ⟨a1, cap1, hve, _⟩ := hown8.els (iba_snoc (p := (X, Y)) (row_own HQ3.out (k - 1) hp0 HV0.out).2 HBD.out); rw [List.length_append, List.length_singleton] at hve; subst hve; have HR8 := hid hown8; have HG8 := hid hgr8; obtain ⟨e0, f0⟩ := head_kept HQ3.out tQR (k - 1) hp0 HV0.out hgr8; clear hown8 hgr8)
              | (go_simp; go_at_call 91; go_must (refine (small c sv l s2 _ HC.out).mono ?_); rintro e w7 ⟨X, Y, s3, rfl, hbd, C1, g1⟩; have HBD := hid hbd; have HC3 := hid C1; have HG3 := hid g1; have HQ3 := hid (HQ.out.moved g1 hcw); have d0 := (HQ3.out.cellAt (k - 1) hp0).trans HV0.out; rw [Nat.zero_add] at d0; have d1 := (World.cell?_alloc_lt w7 (.cells #[.int .i64 X, .int .i64 Y] 35) ⟨g, k - 1, none⟩ (by exact (HQ3.out.lt g rfl).2)).trans d0; have HR3 := hid (ownr_raise (row_own HQ3.out (k - 1) hp0 HV0.out).1 hu0.out); have hz3 : H ≤ w7.heap.size := (by have h2 : w6.heap.size ≤ w7.heap.size := HG3.out.size; omega); clear C1 g1 hbd))
            all_goals
              have hib := hid (iba_snoc (p := (X, Y)) (row_own HQ3.out (k - 1) hp0 HV0.out).2 HBD.out)
              have S := hid (gownq_app HQ3.out hxl.out.symm tQR (k - 1) hp0 HV0.out (u' := .slice a1 (xss[k - 1].length + 1) cap1) (ys := xss[k - 1] ++ [(X, Y)]) ((show OwnQ w8 H tR (.slice a1 (xss[k - 1].length + 1) cap1) (xss[k - 1] ++ [(X, Y)]) from ⟨HR8.out, hib.out⟩).mono hH0) HG8.out (fun i u2 q hik hu2 hq hq2 => by
                have hil : i < vs.length := (List.getElem?_eq_some_iff.1 hu2).1
                have hvl : vs.length = k := by rw [HQ3.out.len]; exact hxl.out
                have h1 := hlast.out.1 i u2 (by omega) hu2 q hq2
                have h2 := (HR8.out.lt q hq).1
                omega))
              have CS := hid (cu_set (i := k - 1) (cu_grown HC3.out HG8.out (fun q hq => by have h1 := hu0.out q hq; omega)) hcg (.slice a1 (xss[k - 1].length + 1) cap1))
              have GS := hid (grown_far (b := g) (i := k - 1) (grown_fresh (grown_dr G6.out HG3.out) HG8.out (fun q hq => by have h1 := hu0.out q hq; omega)) hlg (.slice a1 (xss[k - 1].length + 1) cap1))
              have HLE := hid (fun j (hj : j < (xss.set (k - 1) (xss[k - 1] ++ [(X, Y)])).length) => show (xss.set (k - 1) (xss[k - 1] ++ [(X, Y)]))[j].length ≤ m + 1 by
                have hj' : j < xss.length := by rw [List.length_set] at hj; exact hj
                rw [List.getElem_set]
                split
                · rw [List.length_append, hrows.out (k - 1) hp0]; exact Nat.le_refl _
                · exact hle.out j hj')
              clear HQ3 HC3 HG3 HR3 HR8 HG8 HC HQ G6 hib
              go_wp2_with fail
              go_ret
              exact DONE.out _ _ _ _ _ rfl (by rw [List.length_set]; exact hxl.out) HLE.out S.out CS.out GS.out
          · have hk0' : ¬ (0 : Int) < (k : Int) := by omega
            go_wp2_with fail
            go_ret
            exact DONE.out _ _ _ _ _ rfl hxl.out hle.out O6.out C6.out G6.out
        · have t1 : ((x : Int) == 1) = false := by simp only [beq_eq_false_iff_ne, ne_eq]; omega
          go_wp2_with fail
          go_ret
          exact DONE.out _ _ _ _ _ rfl hxl.out hle.out O6.out C6.out G6.out

end Go.Proofs.Ytjnphlgmmjdeiaa.Draw13

namespace Go.Proofs.Ytjnphlgmmjdeiaa.DrawSol
open Go.RowKit
open Go.Proofs.Ytjnphlgmmjdeiaa.Num Go.Proofs.Ytjnphlgmmjdeiaa.Row Go.Proofs.Ytjnphlgmmjdeiaa.Cur Go.Proofs.Ytjnphlgmmjdeiaa.Draw Go.Proofs.Ytjnphlgmmjdeiaa.Pick Go.Proofs.Ytjnphlgmmjdeiaa.Rat Go.Proofs.Ytjnphlgmmjdeiaa.New Go.Proofs.Ytjnphlgmmjdeiaa.RatLaw Go.Proofs.Ytjnphlgmmjdeiaa.Cells Go.Proofs.Ytjnphlgmmjdeiaa.Rdr Go.Proofs.Ytjnphlgmmjdeiaa.HasL Go.Proofs.Ytjnphlgmmjdeiaa.Rats Go.Proofs.Ytjnphlgmmjdeiaa.RatRow Go.Proofs.Ytjnphlgmmjdeiaa.RatOwn Go.Proofs.Ytjnphlgmmjdeiaa.GridQ Go.Proofs.Ytjnphlgmmjdeiaa.GridQ2 Go.Proofs.Ytjnphlgmmjdeiaa.RatsSS Go.Proofs.Ytjnphlgmmjdeiaa.DrawRat
open Go.Proofs.Ytjnphlgmmjdeiaa.DrawBig (below_pos toss Drew Tossed list_cell grown_fresh grown_far grown_dr cu_set cu_grown)
open Go.Proofs.Ytjnphlgmmjdeiaa.GridMore (Under)
set_option linter.unusedVariables false

open Go.Proofs.Ytjnphlgmmjdeiaa.Draw13 Go.Proofs.Ytjnphlgmmjdeiaa.Apnd Go.Proofs.Ytjnphlgmmjdeiaa.AppQ

/-- A list of a call's own as the source of an append. -/
theorem ownq_src {w : World} {lo n cap : Nat} {e : TypeId} {a : Option Addr} {xs : List RatD} (h : OwnQ w lo e (.slice a n cap) xs) : SrcOk 2 w w.heap.size ⟨a, n, cap, fr xs⟩ := by
  obtain ⟨rfl, _⟩ := ownq_rd h
  refine ⟨fr_len xs, fr_one xs, ?_⟩
  rcases h.1.2 with ⟨hv, h0⟩ | ⟨g, c, cur, hv, hg, _⟩
  · injection hv with e1 _ e3
    exact .inl ⟨e1, h0, e3⟩
  · injection hv with e1 _ _
    subst e1
    refine .inr ⟨⟨g, 0, none⟩, rfl, fun i u hu => ?_⟩
    rw [Addr.add_lit, Nat.zero_add]
    have hi : i < (fr xs).length := (List.getElem?_eq_some_iff.1 hu).1
    rw [fr_len] at hi
    exact ⟨(h.lt g rfl).2, (World.ownsRow.cellAt h.1 i (by omega)).trans hu⟩
/-- Some system in memory of the call's own. -/
def SysAt (w : World) (e : Ending) (w' : World) : Prop :=
  ∃ (a b : Option Addr) (cap capb : Nat) (xss : MatD) (ys : List RatD), e = .returned (.tuple #[.slice a xss.length cap, .slice b ys.length capb]) ∧ xss.length ≤ 8 ∧ (∀ j (hj : j < xss.length), xss[j].length ≤ 9) ∧ ys.length ≤ 9 ∧ ys.length ≤ capb ∧ Els 1 rRow2 w' 0 w'.heap.size a xss ∧ Els 2 rRat w' 0 w'.heap.size b ys ∧ Below w.heap.size w w'
set_option maxRecDepth 100000 in
set_option maxHeartbeats 1000000 in
theorem draw_sys (w : World) (sv : Value) (l : List UInt8) (hl : l.length ≤ 1048576) (hc : Cur.Code w w.heap.size sv l) :
    Calls Try.prog 15 #[sv] w (SysAt w) := by
  obtain ⟨i0, hi0, hz0, hz1, hz2⟩ := info_parts infoRat
  have HN := hid (new_any w sv l hl hc)
  clear hc
  go_enter Try.func15, Try.ntmps15
  go_wp2_with fail
  refine HN.out.mono ?_
  rintro e w1 ⟨c, rfl, hcw, hc1, hb1⟩
  have HB := hid hb1
  have hsz := hb1.size
  generalize ((0 : Nat), numH l (min 4000 l.length)) = s0 at hc1
  have HC := hid hc1
  clear hb1 hc1
  go_wp2_with fail
  refine (below_pos c 4 sv l s0 _ HC.out (by omega) (by omega)).mono ?_
  rintro e w2 ⟨n, s1, rfl, hn, C1, g1⟩
  have HB2 := hid (HB.out.trans (grown_below g1 hsz hcw))
  have C1h := hid C1
  have hsz2 := HB2.out.size
  have hcl2 := C1.lt
  clear C1 g1 HC HB
  go_wp2_with fail
  refine (draw_rows c n n sv l s1 _ (by omega) (by omega) C1h.out).mono ?_
  rintro e w3 ⟨a, cap, vs, xss, s2, rfl, hx, hrw, hg, C2, g2⟩
  have HB3 := hid (HB2.out.trans (grown_below g2 hsz2 hcw))
  have hsz3 := HB3.out.size
  have G3 := hid hg
  have HU3 := hid (gownq_under hg)
  have HX := hid hx
  have HR := hid hrw
  have C2h := hid C2
  have hcl3 := C2.lt
  have hs23 := g2.size
  clear hg g2 HB2 hx hrw C1h C2
  have D1a := draw_rows c 1 n sv l s2 w3 (by omega) (by omega) C2h.out
  rw [show ((1 : Nat) : Int) = 1 from rfl] at D1a
  have D1 := hid D1a
  clear D1a
  go_wp2_with fail
  refine D1.out.mono ?_
  rintro e w4 ⟨b, capb0, vsb, yss, s3, rfl, hy, hrwb, hgb, C3, g3⟩
  have hp1 : 0 < yss.length := by omega
  have HB4 := hid (HB3.out.trans (grown_below g3 hsz3 hcw))
  have hsz4 := HB4.out.size
  have G4 := hid (G3.out.moved g3 hcl2)
  have C3h := hid C3
  have hs34 := g3.size
  obtain ⟨gb, hgbe, hlgb⟩ := gownq_at hgb hp1
  subst hgbe
  obtain ⟨bj, capj, hvj, hlej⟩ := row_head hgb 0 hp1
  have cj := (hgb.cellAt 0 hp1).trans hvj
  rw [Nat.add_zero] at cj
  obtain ⟨ys, hys⟩ : ∃ z, yss[0] = z := ⟨_, rfl⟩
  have hyl := hrwb 0 hp1
  have OB := row_own hgb 0 hp1 hvj
  rw [hys] at cj hlej hyl OB
  have OBh := hid OB
  have hgbl := (hgb.lt gb rfl).2
  have HLE := hid hlej
  have HYL := hid (show ys.length ≤ 9 by omega)
  clear hgb g3 HB3 hy hrwb C2h D1 hvj hys OB G3 hlej hyl C3 hp1
  have hcl4 := C3h.out.lt
  by_cases hn1 : 1 < n
  · have hn1' : (1 : Int) < (n : Int) := by omega
    have hg0 : 0 < xss.length := by have := HX.out; omega
    have hg1 : 1 < xss.length := by have := HX.out; omega
    go_wp2_with fail
    refine (toss c 6 sv l s3 _ C3h.out (by omega)).mono ?_
    rintro e w5 hT
    obtain ⟨t, s4, rfl, C4, g4⟩ := hT
    have HB5 := hid (HB4.out.trans (grown_below g4 hsz4 hcw))
    have hs45 := g4.size
    have G5 := hid (G4.out.moved g4 hcl2)
    have OB5 := hid (OBh.out.grown g4 (fun k hk e => by have e2 := Option.some.inj e; have := (OBh.out.lt k hk).1; omega))
    have hsz5 := HB5.out.size
    clear g4 HB4 OBh C3h C4 G4
    cases t with
    | false =>
      have HE := hid (G5.out.rd.2.up good_row2 (Nat.zero_le _) (Nat.le_refl _))
      have HF := hid ((ownq_rd OB5.out).2.up good_rat (Nat.zero_le _) (Nat.le_refl _))
      have HR9 := hid (fun j (hj : j < xss.length) => show xss[j].length ≤ 9 by have := HR.out j hj; omega)
      clear G5 OB5
      go_wp2_with fail
      go_ret2
      exact ⟨_, _, _, _, xss, ys, by rw [HX.out]; rfl, by rw [HX.out]; omega, HR9.out, HYL.out, HLE.out, HE.out, HF.out, HB5.out⟩
    | true =>
      obtain ⟨g, hge, hlg⟩ := gownq_at G5.out hg0
      subst hge
      obtain ⟨aj, capa, hva, hlea⟩ := row_head G5.out 0 hg0
      have ca := (G5.out.cellAt 0 hg0).trans hva
      rw [Nat.add_zero] at ca
      obtain ⟨r, hr⟩ : ∃ z, xss[0] = z := ⟨_, rfl⟩
      have hrl := HR.out 0 hg0
      have OA := row_own G5.out 0 hg0 hva
      rw [hr] at ca hrl OA
      have OAh := hid OA
      have S1 := hid ((ownq_src OA).below ((Below.refl w5.heap.size w5).alloc (Nat.le_refl _) (.cells #[] tR)))
      have hlit := hid (show OwnR (w5.alloc (.cells #[] tR)) w5.heap.size tR (.slice (some ⟨w5.heap.size, 0, none⟩) 0 0) [] from ownR_lit w5 w5.heap.size tR (Nat.le_refl _))
      have HBA := hid ((Below.refl w5.heap.size w5).alloc (Nat.le_refl _) (.cells #[] tR))
      have hgl := (G5.out.lt g rfl).2
      have hvl := G5.out.len
      have hx0 : (0 : Int) < (n : Int) := by omega
      clear hva hr OA hlea
      go_wp2_with (at_builtin; refine wpList_src rfl _ _ 25 rfl w5.heap.size tR i0 (.agg #[.int .i64 0, .int .i64 0]) 2 16 Try.underlying25 hi0 hz0 hz1 hz2 rfl (by decide) _ 0 [] rfl hlit.out ⟨aj, r.length, capa, fr r⟩ w5.heap.size S1.out rfl (by show 0 + r.length ≤ _; omega) (by decide) (by simp) ?_)
      intro v1 w6 hown hgr
      have hown2 : OwnQ w6 w5.heap.size tR v1 r := ⟨by unfold OwnR; simpa using hown, OAh.out.2⟩
      have B6 := hid (HBA.out.trans (below_of hgr (by simp) (fun q hq => by simp [Value.ownBlock] at hq; omega)))
      obtain ⟨a1, c1, hv1, _⟩ := hown2.form
      subst hv1
      have O6 := hid hown2
      have G6 := hid (G5.out.below' B6.out)
      have G7 := hid (gownq_store G6.out HX.out.symm tQR 1 hg1 (O6.out.mono (by omega)) (fun i u' q hne hu hq hq2 => by
        have h1 := (O6.out.lt q hq).1
        have h2 := (G5.out.lt_row hu q hq2).2
        omega))
      obtain ⟨u1, d1⟩ : ∃ u, w6.cell? ⟨g, 1, none⟩ = some u := by
        have hca := G6.out.cellAt 1 hg1
        rw [Nat.zero_add, List.getElem?_eq_getElem (by rw [hvl]; exact hg1)] at hca
        exact ⟨_, hca⟩
      have d2 := G6.out.free 1
      rw [Nat.zero_add] at d2
      have OB6 := hid (OB5.out.below' B6.out)
      have OB7 := hid (OB6.out.grown (w' := w6.setCell ⟨g, 1, none⟩ (.slice a1 r.length c1)) (row := some g) ⟨rfl, rfl, rfl, by simp, fun i hi hr => by
        have hi' : i ≠ g := fun e => hr (by rw [e])
        exact Below.heap_setCell _ _ _ _ (by simpa using hi')⟩ (fun k hk e => by
          have e2 := Option.some.inj e
          subst e2
          have := (OB6.out.lt g hk).1
          have h2 : g < w3.heap.size := HU3.out.1 g rfl
          omega))
      have B7 := hid ((HB5.out.trans (B6.out.mono hsz5)).setCell (p := ⟨g, 1, none⟩) (by show w.heap.size ≤ g; omega) (.slice a1 r.length c1))
      have HE := hid (G7.out.rd.2.up good_row2 (Nat.zero_le _) (Nat.le_refl _))
      have HF := hid ((ownq_rd OB7.out).2.up good_rat (Nat.zero_le _) (Nat.le_refl _))
      have HXS := hid (show (xss.set 1 r).length = n by rw [List.length_set]; exact HX.out)
      have HR9 := hid (fun j (hj : j < (xss.set 1 r).length) => show (xss.set 1 r)[j].length ≤ 9 by
        rw [List.getElem_set]
        split
        · omega
        · have := HR.out j (by rw [List.length_set] at hj; exact hj); omega)
      clear hown hgr hown2 G5 G6 G7 OB5 OB6 OB7 O6 OAh S1 hlit HBA
      go_wp2_with fail
      go_ret2
      exact ⟨_, _, _, _, xss.set 1 r, ys, by rw [HXS.out]; rfl, by rw [HXS.out]; omega, HR9.out, HYL.out, HLE.out, HE.out, HF.out, B7.out⟩
  · have hn1' : ¬ (1 : Int) < (n : Int) := by omega
    have HE := hid (G4.out.rd.2.up good_row2 (Nat.zero_le _) (Nat.le_refl _))
    have HF := hid ((ownq_rd OBh.out).2.up good_rat (Nat.zero_le _) (Nat.le_refl _))
    have HR9 := hid (fun j (hj : j < xss.length) => show xss[j].length ≤ 9 by have := HR.out j hj; omega)
    clear G4 OBh C3h
    go_wp2_with fail
    go_ret2
    exact ⟨_, _, _, _, xss, ys, by rw [HX.out]; rfl, by rw [HX.out]; omega, HR9.out, HYL.out, HLE.out, HE.out, HF.out, HB4.out⟩
end Go.Proofs.Ytjnphlgmmjdeiaa.DrawSol
