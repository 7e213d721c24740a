/- strconv.Atoi and strings.Cut as ParseRational calls them. -/
import Derived.Test.YtanfakpeongfjaaDoorSentR
import Derived.Test.YtanfakpeongfjaaDoorReadR
import Derived.Lib.SmallJoins
namespace Go.Proofs.YtanfakpeongfjaaDoor.AtoiAny
open Go.RowKit
open Go.Proofs.YtanfakpeongfjaaDoor.Num Go.Proofs.YtanfakpeongfjaaDoor.LaidI Go.Proofs.YtanfakpeongfjaaDoor.SentR Go.Proofs.YtanfakpeongfjaaDoor.ReadR
set_option linter.unusedVariables false

theorem below_bytes (B : Nat) (w w' : World) (hB : B ≤ w.heap.size) (h : w' = w ∨ ∃ t, w' = Lib.bytesWorld w 5 t) : Below B w w' := by
  rcases h with rfl | ⟨t, rfl⟩
  · exact Below.refl _ _
  · exact Joins.below_bytesWorld _ _ _ _ hB
/-- How Atoi ends: the number, or an error and a number that nobody reads. -/
def AtoiEnd (l : List UInt8) (e : Ending) : Prop :=
  (∃ v : Int, Lib.atoiAll l = .ok v ∧ (-9223372036854775808 ≤ v ∧ v ≤ 9223372036854775807) ∧ e = .returned (.tuple #[.int .i64 v, .nilIface])) ∨
  ((∀ v, Lib.atoiAll l ≠ .ok v) ∧ ∃ (n : Int) (N : Nat), e = .returned (.tuple #[.int .i64 n, .iface 46 (.pointer (some ⟨N, 0, none⟩))]))
theorem atoi_any (s : ByteArray) (w : World) (hs : s.size ≤ 1048576) (hv : Sent w) :
    Calls Tryd.prog 10 #[.string s] w fun e w' => AtoiEnd s.data.toList e ∧ Below w.heap.size w w' := by
  obtain ⟨⟨tp, p, h1⟩, ⟨tq, q, h2⟩⟩ := hv
  rcases h : Lib.atoiAll s.data.toList with v | _ | _
  · refine (Tryd.strconv_Atoi_ok s (by omega) v h w).mono ?_
    rintro e w1 ⟨rfl, hw⟩
    exact ⟨Or.inl ⟨v, h, Lib.atoiAll_bounds h, rfl⟩, below_bytes w.heap.size w w1 (Nat.le_refl _) hw⟩
  · refine (Tryd.strconv_Atoi_syntax_var s (by omega) h tp p _ h1).mono ?_
    rintro e w1 ⟨N, rfl, _, _, hb⟩
    exact ⟨Or.inr ⟨fun v e => (by rw [h] at e; cases e), _, N, rfl⟩, hb⟩
  · refine (Tryd.strconv_Atoi_range_var s (by omega) h tq q _ h2).mono ?_
    rintro e w1 ⟨N, rfl, _, _, hb⟩
    exact ⟨Or.inr ⟨fun v e => (by rw [h] at e; cases e), _, N, rfl⟩, hb⟩
theorem cut_yes (s : ByteArray) (m : Int) (w : World) (hs : s.size ≤ 1048576) (hm : w.cell? ⟨0, 0, none⟩ = some (.int .i64 m)) (h : ix s < s.size) :
    Calls Tryd.prog 9 #[.string s, .string ⟨#[47]⟩] w fun e w' => e = .returned (.tuple #[.string ⟨(sides s.data.toList).1.toArray⟩, .string ⟨(sides s.data.toList).2.toArray⟩, .bool true]) ∧ Below w.heap.size w w' := by
  have hc := cut47 s.data.toList
  rw [if_pos (by rw [size_of]; exact h)] at hc
  have hsd : sides s.data.toList = (s.data.toList.take (at47 s.data.toList), s.data.toList.drop (at47 s.data.toList + 1)) := by
    unfold sides
    rw [if_pos (by rw [size_of]; exact h)]
  refine (Tryd.strings_Cut s ⟨#[47]⟩ m w (by omega) hm).mono ?_
  rintro e w1 ⟨rfl, n, rfl⟩
  rw [show (⟨#[47]⟩ : ByteArray).data.toList = [47] from rfl, hc, hsd]
  exact ⟨rfl, Joins.below_draws _ _ _⟩
theorem cut_no (s : ByteArray) (m : Int) (w : World) (hs : s.size ≤ 1048576) (hm : w.cell? ⟨0, 0, none⟩ = some (.int .i64 m)) (h : ¬ ix s < s.size) :
    Calls Tryd.prog 9 #[.string s, .string ⟨#[47]⟩] w fun e w' => e = .returned (.tuple #[.string ⟨(sides s.data.toList).1.toArray⟩, .string ⟨#[]⟩, .bool false]) ∧ (sides s.data.toList).2 = [49] ∧ Below w.heap.size w w' := by
  have hc := cut47 s.data.toList
  rw [if_neg (by rw [size_of]; exact h)] at hc
  have hsd : sides s.data.toList = (s.data.toList, [49]) := by
    unfold sides
    rw [if_neg (by rw [size_of]; exact h)]
  refine (Tryd.strings_Cut s ⟨#[47]⟩ m w (by omega) hm).mono ?_
  rintro e w1 ⟨rfl, n, rfl⟩
  rw [show (⟨#[47]⟩ : ByteArray).data.toList = [47] from rfl, hc, hsd]
  exact ⟨rfl, rfl, Joins.below_draws _ _ _⟩
end Go.Proofs.YtanfakpeongfjaaDoor.AtoiAny
