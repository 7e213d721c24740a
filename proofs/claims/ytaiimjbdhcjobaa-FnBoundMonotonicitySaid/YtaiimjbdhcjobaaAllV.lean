/- The program's check of a list of rationals. -/
import Derived.Test.YtaiimjbdhcjobaaValid
import Derived.Test.YtaiimjbdhcjobaaRatsR
namespace Go.Proofs.Ytaiimjbdhcjobaa.AllV
open Go.RowKit
open Go.Proofs.Ytaiimjbdhcjobaa.Num Go.Proofs.Ytaiimjbdhcjobaa.Rat Go.Proofs.Ytaiimjbdhcjobaa.Valid Go.Proofs.Ytaiimjbdhcjobaa.Rdr Go.Proofs.Ytaiimjbdhcjobaa.HasL Go.Proofs.Ytaiimjbdhcjobaa.Rats
set_option linter.unusedVariables false

def allV (xs : List RatD) : Bool := xs.all fun p => vr p.1 p.2
def okTo (xs : List RatD) (k : Nat) : Prop := ∀ j (h : j < xs.length), j < k → vr xs[j].1 xs[j].2 = true
theorem allV_yes {xs : List RatD} (h : okTo xs xs.length) : allV xs = true := List.all_eq_true.2 fun p hp => by
  obtain ⟨j, hj, rfl⟩ := List.getElem_of_mem hp
  exact h j hj hj
theorem allV_no {xs : List RatD} {k : Nat} (hk : k < xs.length) (h : vr xs[k].1 xs[k].2 = false) : allV xs = false := by
  cases hb : allV xs with
  | false => rfl
  | true =>
    have := List.all_eq_true.1 hb xs[k] (List.getElem_mem _)
    rw [h] at this; exact this.symm
theorem allV_at {xs : List RatD} (h : allV xs = true) (k : Nat) (hk : k < xs.length) : vr xs[k].1 xs[k].2 = true := List.all_eq_true.1 h xs[k] (List.getElem_mem _)
theorem okTo_step {xs : List RatD} {k : Nat} (h : okTo xs k) (hk : k < xs.length) (hv : vr xs[k].1 xs[k].2 = true) : okTo xs (k + 1) := fun j hj hjk => by
  by_cases e : j = k
  · subst e; exact hv
  · exact h j hj (by omega)

set_option maxRecDepth 100000 in
theorem impl_allv (a : Option Addr) (cap : Nat) (xs : List RatD) (lo hi : Nat) (w : World) (hn : xs.length ≤ 9223372036854775806) (h : Els 2 rRat w lo hi a xs) (hh : hi ≤ w.heap.size) :
    Calls Try.prog 75 #[.slice a xs.length cap] w fun e w' => e = .returned (.bool (allV xs)) ∧ Below w.heap.size w w' := by
  go_enter Try.func75, Try.ntmps75
  go_wp2_with fail
  go_loopw [4, 7] (fun _ i wr => ∃ k : Nat, k ≤ xs.length ∧ i = .int .i64 k ∧ Hid (okTo xs k) ∧ Hid (Below w.heap.size w wr)) (fun _ i _ => xs.length - (intOf i).toNat)
  case atStart => exact ⟨0, Nat.zero_le _, rfl, hid (fun j _ hj => by omega), hid (Below.refl _ _)⟩
  case round =>
    obtain ⟨k, hk, rfl, hok, hb⟩ := hrel
    by_cases hlt : k < xs.length
    · obtain ⟨b, off, rfl, _, hbB, c0, c1⟩ := rats_at (h.grow good_rat hb.out hh) k hlt
      have hbd := rats_bd h k hlt
      have hlt' : (k : Int) < (xs.length : Int) := by omega
      have h0' : (0 : Int) ≤ (k : Int) := by omega
      have hsz := hb.out.size
      have N1 := hid (hasl_new wr [.int .i64 xs[k].1, .int .i64 xs[k].2] 30)
      have B1 := hid (hb.out.alloc hsz (.cells #[.int .i64 xs[k].1, .int .i64 xs[k].2] 30))
      obtain ⟨n0, n1, n2, n3, n4⟩ := N1.out.two
      cases hv : vr xs[k].1 xs[k].2 with
      | true =>
        have A := hid (fun W => impl_valid xs[k].1 xs[k].2 W hbd.1.1 hbd.1.2 hbd.2.1 hbd.2.2)
        rw [hv] at A
        have HO := hid (okTo_step hok.out hlt hv)
        clear h hbd hok hb hv
        go_wp2_with fail
        refine (A.out _).mono ?_
        rintro e w2 ⟨rfl, hb2⟩
        have HB := hid (B1.out.trans (hb2.mono (by (try simp only [World.size_alloc]); omega)))
        clear hb2
        go_wp2_with fail
        go_roundw
        case rel => exact ⟨k + 1, by omega, by go_num, HO, HB⟩
        case measure => simp [intOf]; omega
      | false =>
        have A := hid (fun W => impl_valid xs[k].1 xs[k].2 W hbd.1.1 hbd.1.2 hbd.2.1 hbd.2.2)
        rw [hv] at A
        have HO := hid (allV_no hlt hv)
        clear h hbd hok hb hv
        go_wp2_with fail
        refine (A.out _).mono ?_
        rintro e w2 ⟨rfl, hb2⟩
        have HB := hid (B1.out.trans (hb2.mono (by (try simp only [World.size_alloc]); omega)))
        clear hb2
        go_wp2_with fail
        go_ret
        exact ⟨by rw [HO.out]; rfl, HB.out⟩
    · have e : k = xs.length := by omega
      subst e
      have HO := hid (allV_yes hok.out)
      clear h hok
      go_wp2_with fail
      go_ret
      exact ⟨by rw [HO.out]; rfl, hb.out⟩

theorem two_yes (x y u v : Int) (W : World) (n : Nat) (hn : n = W.heap.size) (h1 : vr x y = true) (h2 : vr u v = true) : Calls Try.prog 75 #[.slice (some ⟨n, 0, none⟩) 2 2] (W.alloc (.cells #[.int .i64 x, .int .i64 y, .int .i64 u, .int .i64 v] 30)) fun e w' => e = .returned (.bool true) ∧ Below (W.alloc (.cells #[.int .i64 x, .int .i64 y, .int .i64 u, .int .i64 v] 30)).heap.size (W.alloc (.cells #[.int .i64 x, .int .i64 y, .int .i64 u, .int .i64 v] 30)) w' := by
  subst hn
  obtain ⟨g0, g1, g2, g3, _⟩ := vr_true h1
  obtain ⟨k0, k1, k2, k3, _⟩ := vr_true h2
  have e : allV [(x, y), (u, v)] = true := by simp [allV, h1, h2]
  rw [← e]
  exact impl_allv (some ⟨W.heap.size, 0, none⟩) 2 [(x, y), (u, v)] 0 _ _ (by simp) (els_two W x y u v _ ⟨by omega, by omega⟩ ⟨by omega, by omega⟩ ⟨by omega, by omega⟩ ⟨by omega, by omega⟩) (Nat.le_refl _)
theorem two_no (x y u v : Int) (W : World) (n : Nat) (hn : n = W.heap.size) (hx : -9223372036854775808 ≤ x ∧ x ≤ 9223372036854775807) (hy : -9223372036854775808 ≤ y ∧ y ≤ 9223372036854775807) (hu : -9223372036854775808 ≤ u ∧ u ≤ 9223372036854775807) (hv : -9223372036854775808 ≤ v ∧ v ≤ 9223372036854775807) (h : (vr x y && vr u v) = false) :
    Calls Try.prog 75 #[.slice (some ⟨n, 0, none⟩) 2 2] (W.alloc (.cells #[.int .i64 x, .int .i64 y, .int .i64 u, .int .i64 v] 30)) fun e w' => e = .returned (.bool false) ∧ Below (W.alloc (.cells #[.int .i64 x, .int .i64 y, .int .i64 u, .int .i64 v] 30)).heap.size (W.alloc (.cells #[.int .i64 x, .int .i64 y, .int .i64 u, .int .i64 v] 30)) w' := by
  subst hn
  have e : allV [(x, y), (u, v)] = false := by simpa [allV] using h
  rw [← e]
  exact impl_allv (some ⟨W.heap.size, 0, none⟩) 2 [(x, y), (u, v)] 0 _ _ (by simp) (els_two W x y u v _ hx hy hu hv) (Nat.le_refl _)
end Go.Proofs.Ytaiimjbdhcjobaa.AllV
