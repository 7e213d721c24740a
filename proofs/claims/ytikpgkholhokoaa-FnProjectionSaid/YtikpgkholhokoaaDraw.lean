/- The draws of the laws (spec.l1Byte, l1Below, l1PickInt, l1Once): each answers a function of the bytes and of the cursor's state, and moves the cursor alone. -/
import Derived.Test.YtikpgkholhokoaaCur
import Derived.WalkKit
import Derived.ProofKit
import Derived.OpenShut
import Derived.IntWalk
import Derived.BigQuiet
import Derived.Deep.QuietTactic
import Derived.Deep.Draws
namespace Go.Proofs.Ytikpgkholhokoaa.Draw
open Go.ChangeShapes Go.WideShapes Go.ChangeAt Go.RowKit
open Go.Proofs.Ytikpgkholhokoaa.Num Go.Proofs.Ytikpgkholhokoaa.Row Go.Proofs.Ytikpgkholhokoaa.Cur
set_option linter.unusedVariables false

theorem byte_more (c b off cap : Nat) (l : List UInt8) (s : St) (w : World) (hc : Cu w c (.slice (some ⟨b, off, none⟩) l.length cap) l s)
    (hi : s.1 < l.length) (hne : b ≠ c) (hb : w.cell? ⟨b, off + s.1, none⟩ = some (.int .u8 ((l[s.1].toNat : Nat) : Int))) :
    Calls Try.prog 39 #[.pointer (some ⟨c, 0, none⟩)] w fun e w' => e = .returned (.int .i64 (byteF l s).1) ∧ Cu w' c (.slice (some ⟨b, off, none⟩) l.length cap) l (byteF l s).2 ∧ w.grownBy w' (some c) := by
  obtain ⟨h0, h1, h2, f1, f2⟩ := hc.cells
  obtain ⟨h', hh⟩ : ∃ h', nextH s.2 = h' := ⟨_, rfl⟩
  obtain ⟨x, hx⟩ : ∃ x, mixH h' = x := ⟨_, rfl⟩
  obtain ⟨x0, x1⟩ := mixH_bounds h'
  rw [hx] at x0 x1
  have hm := hc.small
  have HC := hid hc
  have hr := byteF_in l s hi
  rw [hh, hx] at hr
  have HR := hid hr
  have HH := hid hh
  clear hc hr
  unfold nextH at hh
  unfold mixH at hx
  have hbb := l[s.1].toNat_lt
  generalize l[s.1].toNat = bb at hb hbb HR
  obtain ⟨i, h⟩ := s
  simp only at *
  go_enter Try.func39, Try.ntmps39
  go_wp2
  go_quiet (fail)
  clear hh hx
  go_wp2
  go_quiet (fail)
  go_wp2
  go_quiet (fail)
  go_wp2
  go_ret
  refine ⟨?_, HC.out.more hi _ _ _ HH.out.symm rfl⟩
  rw [HR.out]
  rfl

theorem byte_end (c : Nat) (sv : Value) (n : Nat) (l : List UInt8) (s : St) (w : World) (hc : Cu w c sv l s) (hsv : ∃ a cap, sv = .slice a n cap) (hn : n = l.length) (hi : ¬ s.1 < l.length) :
    Calls Try.prog 39 #[.pointer (some ⟨c, 0, none⟩)] w fun e w' => e = .returned (.int .i64 (byteF l s).1) ∧ Cu w' c sv l (byteF l s).2 ∧ w.grownBy w' (some c) := by
  obtain ⟨a, cap, rfl⟩ := hsv
  obtain ⟨h0, h1, h2, f1, f2⟩ := hc.cells
  obtain ⟨h', hh⟩ : ∃ h', nextH s.2 = h' := ⟨_, rfl⟩
  obtain ⟨x, hx⟩ : ∃ x, mixH h' = x := ⟨_, rfl⟩
  obtain ⟨x0, x1⟩ := mixH_bounds h'
  rw [hx] at x0 x1
  have hm := hc.small
  have hp := hc.place
  have HC := hid hc
  have hr := byteF_out l s hi
  rw [hh, hx] at hr
  have HR := hid hr
  have HH := hid hh
  have HI := hid hi
  have hin : ¬ (s.1 : Int) < (n : Int) := by omega
  have HN := hid hn
  clear hc hr hi hn hp hm
  unfold nextH at hh
  unfold mixH at hx
  obtain ⟨i, h⟩ := s
  simp only at *
  go_enter Try.func39, Try.ntmps39
  go_wp2
  go_quiet (fail)
  clear hh hx
  go_wp2
  go_quiet (fail)
  go_wp2
  go_ret
  obtain ⟨k1, k2⟩ := HC.out.next HI.out _ _ HH.out.symm
  refine ⟨?_, k1.drewN _, grown_drew k2 _⟩
  rw [HR.out]
  rfl

/-- l1Byte. -/
theorem byte_any (c : Nat) (sv : Value) (l : List UInt8) (s : St) (w : World) (hc : Cu w c sv l s) :
    Calls Try.prog 39 #[.pointer (some ⟨c, 0, none⟩)] w fun e w' => e = .returned (.int .i64 (byteF l s).1) ∧ Cu w' c sv l (byteF l s).2 ∧ w.grownBy w' (some c) := by
  by_cases hi : s.1 < l.length
  · rcases hc.code with ⟨rfl, _⟩ | ⟨b, off, cap, rfl, hbc, hcell⟩
    · simp at hi
    · exact byte_more c b off cap l s w hc hi (by omega) (hcell s.1 hi)
  · rcases hc.code with ⟨h0, a, cap, h1⟩ | ⟨b, off, cap, h1, hbc, hcell⟩
    · exact byte_end c sv 0 l s w hc ⟨a, cap, h1⟩ (by rw [h0]; rfl) hi
    · exact byte_end c sv l.length l s w hc ⟨_, cap, h1⟩ rfl hi

theorem zero_below (c : Nat) (n : Int) (w : World) (hn : n ≤ 0) :
    Calls Try.prog 20 #[.pointer (some ⟨c, 0, none⟩), .int .i64 n] w fun e w' => e = .returned (.int .i64 0) ∧ w = w' := by
  go_enter Try.func20, Try.ntmps20
  go_wp2
  go_ret
  exact ⟨rfl, rfl⟩

/-- l1Below. -/
theorem below_any (c : Nat) (n : Int) (sv : Value) (l : List UInt8) (s : St) (w : World) (hc : Cu w c sv l s) (hn : n ≤ 9223372036854775807) :
    Calls Try.prog 20 #[.pointer (some ⟨c, 0, none⟩), .int .i64 n] w fun e w' => e = .returned (.int .i64 (belowF l n s).1) ∧ Cu w' c sv l (belowF l n s).2 ∧ w.grownBy w' (some c) := by
  have HC := hid hc
  clear hc
  by_cases h0 : n ≤ 0
  · have e : belowF l n s = (0, s) := by unfold belowF; rw [if_pos h0]
    rw [e]
    exact (zero_below c n w h0).mono fun e w' ⟨h1, h2⟩ => by subst h2; exact ⟨h1, HC.out, grown_refl _ _⟩
  · by_cases h1 : n ≤ 256
    · have e : belowF l n s = ((byteF l s).1 % n, (byteF l s).2) := by unfold belowF; rw [if_neg h0, if_pos h1]
      rw [e]
      obtain ⟨b0, b1⟩ := byteF_bounds l s
      have HB := byte_any c sv l s w HC.out
      generalize byteF l s = r at HB b0 b1 ⊢
      obtain ⟨x, s1⟩ := r
      simp only at *
      have H2 := hid HB
      clear HB
      go_enter Try.func20, Try.ntmps20
      go_wp2_with fail
      refine H2.out.mono ?_
      rintro e w1 ⟨rfl, hc1, hg1⟩
      have K1 := hid hc1
      have K2 := hid hg1
      clear hc1 hg1
      go_wp2_with fail
      go_ret
      exact ⟨rfl, K1.out, K2.out⟩
    · have e : belowF l n s = ((fourF l s).1 % n, (fourF l s).2) := by unfold belowF; rw [if_neg h0, if_neg h1]
      rw [e]
      unfold fourF
      simp only
      obtain ⟨a0, a1⟩ := byteF_bounds l s
      have B1 := byte_any c sv l s w HC.out
      generalize byteF l s = r1 at B1 a0 a1 ⊢
      obtain ⟨x1, s1⟩ := r1
      simp only at *
      obtain ⟨b0, b1⟩ := byteF_bounds l s1
      have B2 := fun w h => byte_any c sv l s1 w h
      generalize byteF l s1 = r2 at B2 b0 b1 ⊢
      obtain ⟨x2, s2⟩ := r2
      simp only at *
      obtain ⟨c0, c1⟩ := byteF_bounds l s2
      have B3 := fun w h => byte_any c sv l s2 w h
      generalize byteF l s2 = r3 at B3 c0 c1 ⊢
      obtain ⟨x3, s3⟩ := r3
      simp only at *
      obtain ⟨d0, d1⟩ := byteF_bounds l s3
      have B4 := fun w h => byte_any c sv l s3 w h
      generalize byteF l s3 = r4 at B4 d0 d1 ⊢
      obtain ⟨x4, s4⟩ := r4
      simp only at *
      have H1 := hid B1
      have H2 := hid B2
      have H3 := hid B3
      have H4 := hid B4
      clear B1 B2 B3 B4
      go_enter Try.func20, Try.ntmps20
      go_wp2_with fail
      refine H1.out.mono ?_
      rintro e w1 ⟨rfl, k1, g1⟩
      have K1 := hid k1
      have G1 := hid g1
      clear k1 g1
      go_wp2_with fail
      refine (H2.out _ K1.out).mono ?_
      rintro e w2 ⟨rfl, k2, g2⟩
      have K2 := hid k2
      have G2 := hid g2
      clear k2 g2
      go_wp2_with fail
      refine (H3.out _ K2.out).mono ?_
      rintro e w3 ⟨rfl, k3, g3⟩
      have K3 := hid k3
      have G3 := hid g3
      clear k3 g3
      go_wp2_with fail
      refine (H4.out _ K3.out).mono ?_
      rintro e w4 ⟨rfl, k4, g4⟩
      have K4 := hid k4
      have G4 := hid g4
      clear k4 g4
      go_wp2_with fail
      go_ret
      exact ⟨rfl, K4.out, grown_trans (grown_trans (grown_trans G1.out G2.out) G3.out) G4.out⟩

/-- l1Once. -/
theorem once_any (c : Nat) (n : Int) (sv : Value) (l : List UInt8) (s : St) (w : World) (hc : Cu w c sv l s) (hn : n ≤ 9223372036854775807) :
    Calls Try.prog 21 #[.pointer (some ⟨c, 0, none⟩), .int .i64 n] w fun e w' => e = .returned (.bool ((belowF l n s).1 == 0)) ∧ Cu w' c sv l (belowF l n s).2 ∧ w.grownBy w' (some c) := by
  have HB := hid (below_any c n sv l s w hc hn)
  clear hc
  generalize belowF l n s = r at HB ⊢
  obtain ⟨x, s1⟩ := r
  simp only at *
  go_enter Try.func21, Try.ntmps21
  go_wp2_with fail
  refine HB.out.mono ?_
  rintro e w1 ⟨rfl, hc1, hg1⟩
  have K1 := hid hc1
  have K2 := hid hg1
  clear hc1 hg1
  go_wp2_with fail
  go_ret
  exact ⟨rfl, K1.out, K2.out⟩

/-- What l1New hands back: a new block, the cursor over the code at its start. -/
def NewAt (sv : Value) (l : List UInt8) (w : World) (e : Ending) (w' : World) : Prop :=
  ∃ c, e = .returned (.pointer (some ⟨c, 0, none⟩)) ∧ w.heap.size ≤ c ∧ Cu w' c sv l (0, numH l (min 4000 l.length)) ∧ Below w.heap.size w w'

theorem new_made (w : World) (sv : Value) (l : List UInt8) (h : Int) (hl : l.length ≤ 1048576) (hc : Cur.Code w w.heap.size sv l) (hh : h = numH l (min 4000 l.length)) :
    NewAt sv l w (.returned (.pointer (some ⟨w.heap.size, 0, none⟩))) (w.alloc (.cells #[sv, .int .i64 0, .int .i64 h] 57)) := by
  have hb : Below w.heap.size w (w.alloc (.cells #[sv, .int .i64 0, .int .i64 h] 57)) := (Below.refl _ _).alloc (Nat.le_refl _) _
  refine ⟨w.heap.size, rfl, Nat.le_refl _, ⟨?_, Nat.zero_le _, hl, hc.below hb (Nat.le_refl _)⟩, hb⟩
  subst hh
  exact heap_alloc_new w _

theorem new_empty (w : World) (a : Option Addr) (cap : Nat) :
    Calls Try.prog 18 #[.slice a 0 cap] w fun e w' => NewAt (.slice a 0 cap) [] w e w' := by
  have hm := hid (new_made w (.slice a 0 cap) [] 10101 (by simp) (Or.inl ⟨rfl, a, cap, rfl⟩) rfl)
  go_enter Try.func18, Try.ntmps18
  go_wp2
  go_loop [3, 4] (fun h i => h = .int .i64 10101 ∧ i = .int .i64 0) (fun _ i => 1 - (intOf i).toNat)
  case atStart => exact ⟨rfl, rfl⟩
  case round =>
    obtain ⟨rfl, rfl⟩ := hrel
    go_wp2
    go_ret
    exact hm.out

set_option maxRecDepth 100000 in
theorem new_some (w : World) (b off cap : Nat) (l : List UInt8) (hl : l.length ≤ 1048576) (hb : b < w.heap.size) (hcell : ∀ j (h : j < l.length), w.cell? ⟨b, off + j, none⟩ = some (.int .u8 ((l[j].toNat : Nat) : Int))) :
    Calls Try.prog 18 #[.slice (some ⟨b, off, none⟩) l.length cap] w fun e w' => NewAt (.slice (some ⟨b, off, none⟩) l.length cap) l w e w' := by
  have hm := hid fun h (hh : h = numH l (min 4000 l.length)) => new_made w (.slice (some ⟨b, off, none⟩) l.length cap) l h hl (Or.inr ⟨b, off, cap, rfl, hb, hcell⟩) hh
  have HC := hid hcell
  clear hcell
  go_enter Try.func18, Try.ntmps18
  go_wp2
  go_loop [3, 4] (fun h i => ∃ k : Nat, k ≤ l.length ∧ k ≤ 4000 ∧ i = .int .i64 k ∧ h = .int .i64 (numH l k)) (fun _ i => 4001 - (intOf i).toNat)
  case atStart => exact ⟨0, Nat.zero_le _, Nat.zero_le _, rfl, by simp [numH]⟩
  case round =>
    obtain ⟨k, hk, hk4, rfl, rfl⟩ := hrel
    obtain ⟨n0, n1⟩ := numH_bounds l hl k hk
    by_cases hlt : k < l.length ∧ k < 4000
    · obtain ⟨hl1, hl2⟩ := hlt
      have hst := hid (numH_step l k hl1)
      have hce := HC.out k hl1
      have hbb := l[k].toNat_lt
      generalize l[k].toNat = bb at hst hce hbb
      generalize numH l k = h at n0 n1 hst ⊢
      go_wp2
      go_round
      case rel => exact ⟨k + 1, by omega, by omega, by go_num, by rw [hst.out]; rfl⟩
      case measure => simp [intOf]; omega
    · have hend := hid (hm.out (numH l k) (by congr 1; omega))
      clear hm n0 n1
      have hge : ¬ k < l.length ∨ (k < l.length ∧ ¬ k < 4000) := by omega
      clear hlt
      generalize numH l k = h at hend ⊢
      rcases hge with hge | ⟨hge, hg2⟩
      · go_wp2
        go_ret
        exact hend.out
      · go_wp2
        go_ret
        exact hend.out

/-- l1New. -/
theorem new_any (w : World) (sv : Value) (l : List UInt8) (hl : l.length ≤ 1048576) (hc : Cur.Code w w.heap.size sv l) :
    Calls Try.prog 18 #[sv] w fun e w' => NewAt sv l w e w' := by
  rcases hc with ⟨rfl, a, cap, rfl⟩ | ⟨b, off, cap, rfl, hb, hcell⟩
  · exact new_empty w a cap
  · exact new_some w b off cap l hl hb hcell

end Go.Proofs.Ytikpgkholhokoaa.Draw
