/- Texts joined by a separator: the plain join; a row of texts that a call makes; strings.Join at it. -/
import Derived.Lib.Join
import Derived.Test.YtgpdnleooeekbaaDoorShelf
import Derived.Test.YtgpdnleooeekbaaDoorFmtP
import Derived.Test.YtgpdnleooeekbaaDoorLawKit
namespace Go.Proofs.YtgpdnleooeekbaaDoor.Jnd
open Go.RowKit
open Go.Proofs.YtgpdnleooeekbaaDoor.Num Go.Proofs.YtgpdnleooeekbaaDoor.Rdr Go.Proofs.YtgpdnleooeekbaaDoor.HasL Go.Proofs.YtgpdnleooeekbaaDoor.FmtP
set_option linter.unusedVariables false

theorem join_snocG (y : List UInt8) (ys : List (List UInt8)) (sep : List UInt8) (h : ys ≠ []) : Lib.join (ys ++ [y]) sep = Lib.join ys sep ++ (sep ++ y) := by
  cases ys with
  | nil => exact absurd rfl h
  | cons z r =>
    rw [List.cons_append, Lib.join_cons, Lib.join_cons]
    simp [Lib.joinTail]
section
variable {α : Type} (f : α → List UInt8) (sep : UInt8)
/-- The formats of the first m, joined. -/
def jg (xs : List α) (m : Nat) : List UInt8 := Lib.join ((xs.take m).map f) [sep]
theorem jg_zero (xs : List α) : jg f sep xs 0 = [] := rfl
theorem jg_one (xs : List α) (h : 0 < xs.length) : jg f sep xs 1 = f xs[0] := by
  unfold jg
  cases xs with
  | nil => simp at h
  | cons u r => simp [Lib.join_one]
theorem jg_step (xs : List α) (k : Nat) (h : k < xs.length) (h0 : 0 < k) : jg f sep xs (k + 1) = jg f sep xs k ++ sep :: f xs[k] := by
  unfold jg
  rw [List.take_succ_eq_append_getElem h, List.map_append, List.map_cons, List.map_nil, join_snocG]
  · rfl
  · intro e
    have h1 := congrArg List.length e
    rw [List.length_map, List.length_take, List.length_nil] at h1
    omega
theorem jg_len (xs : List α) (B : Nat) (hB : ∀ j (h : j < xs.length), (f xs[j]).length ≤ B) (m : Nat) (hm : m ≤ xs.length) : (jg f sep xs m).length ≤ m * (B + 1) := by
  induction m with
  | zero => rw [jg_zero]; simp
  | succ m ih =>
    have hlt : m < xs.length := by omega
    have h1 := hB m hlt
    have h3 := ih (by omega)
    by_cases h0 : m = 0
    · subst h0
      rw [jg_one f sep xs hlt]
      omega
    · rw [jg_step f sep xs m hlt (by omega), List.length_append, List.length_cons, Nat.succ_mul]
      omega
theorem jg_all (xs : List α) : Lib.join ((xs.map fun a => mkB (f a)).map (·.data.toList)) [sep] = jg f sep xs xs.length := by
  unfold jg
  rw [List.take_length, List.map_map]
  congr 1
end
/-! ### the program's -/
def sc (ns : List ByteArray) : List Value := ns.map Value.string
theorem sc_set (ns : List ByteArray) (j : Nat) (s : ByteArray) : (sc ns).set j (.string s) = sc (ns.set j s) := by simp [sc, List.map_set]
theorem sc_cell {w : World} {g : Nat} {ns : List ByteArray} (h : HasL w g (sc ns)) (j : Nat) (hj : j < ns.length) : w.cell? ⟨g, j, none⟩ = some (.string ns[j]) := by
  have := (h.2 j (by simp [sc]; exact hj)).1
  simpa [sc] using this
theorem sc_free {w : World} {g : Nat} {ns : List ByteArray} (h : HasL w g (sc ns)) (j : Nat) (hj : j < ns.length) : w.frozen? ⟨g, j, none⟩ = false := (h.2 j (by simp [sc]; exact hj)).2
theorem infoS : (Tryd.prog.info? 9).map (fun i => (i.zero, i.size, i.bytes)) = some (some (.string ⟨#[]⟩), 1, 16) := by kernel_rfl
theorem made_s (n : Nat) : (madeCells (Value.cells (.string ⟨#[]⟩)) (n * 1)) = (sc (List.replicate n ⟨#[]⟩)).toArray := by
  refine Array.ext (by simp [madeCells, sc]) (fun i h1 h2 => by simp [madeCells, sc, Value.cells, Nat.mod_one])
/-- The first k names stand. -/
def Nms {α : Type} (f : α → ByteArray) (xs : List α) (ns : List ByteArray) (k : Nat) : Prop := ns.length = xs.length ∧ ∀ j (h : j < xs.length) (h' : j < ns.length), j < k → ns[j] = f xs[j]
theorem Nms.zero {α : Type} (f : α → ByteArray) (xs : List α) : Nms f xs (List.replicate xs.length ⟨#[]⟩) 0 := ⟨by simp, fun j _ _ h => by omega⟩
theorem Nms.step {α : Type} {f : α → ByteArray} {xs : List α} {ns : List ByteArray} {k : Nat} (h : Nms f xs ns k) (hk : k < xs.length) : Nms f xs (ns.set k (f xs[k])) (k + 1) := by
  refine ⟨by simp [h.1], fun j hj hj' hjk => ?_⟩
  by_cases e : k = j
  · subst e
    rw [List.getElem_set_self]
  · rw [List.getElem_set_ne e]
    exact h.2 j hj (by rw [List.length_set] at hj'; exact hj') (by omega)
theorem Nms.done {α : Type} {f : α → ByteArray} {xs : List α} {ns : List ByteArray} (h : Nms f xs ns xs.length) : ns = xs.map f := by
  refine List.ext_getElem (by simp [h.1]) (fun j h1 h2 => ?_)
  rw [List.getElem_map]
  exact h.2 j (by rw [← h.1]; exact h1) h1 (by rw [← h.1]; exact h1)

/-- strings.Join at a row of names that the call made. -/
theorem joined {α : Type} (f : α → List UInt8) (sep : UInt8) (xs : List α) (ns : List ByteArray) (g B : Nat) (w : World) (hN : Nms (fun a => mkB (f a)) xs ns xs.length) (hH : HasL w g (sc ns)) (hlen : xs.length ≤ 140737488355328) (hl : (jg f sep xs xs.length).length ≤ 140737488355328) :
    Calls Tryd.prog 45 #[.slice (some ⟨g, 0, none⟩) xs.length xs.length, .string ⟨#[sep]⟩] w fun e w' => e = .returned (.string (mkB (jg f sep xs xs.length))) ∧ Below w.heap.size w w' := by
  have hm : ns = xs.map (fun a => mkB (f a)) := hN.done
  rw [hm] at hH
  have J := Tryd.strings_Join g 0 xs.length (xs.map (fun a => mkB (f a))) ⟨#[sep]⟩ w (fun j x hx => by
    obtain ⟨hj, hx'⟩ := List.getElem?_eq_some_iff.1 hx
    have := sc_cell hH j hj
    rw [Nat.zero_add, this, hx']) hH.1
  rw [List.length_map] at J
  have J2 := J hlen (Nat.le_refl _) (by
    show (Lib.join ((xs.map fun a => mkB (f a)).map (·.data.toList)) [sep]).length ≤ _
    rw [jg_all]
    omega)
  have e1 : Lib.join ((xs.map fun a => mkB (f a)).map (·.data.toList)) (⟨#[sep]⟩ : ByteArray).data.toList = jg f sep xs xs.length := jg_all f sep xs
  rw [e1] at J2
  exact J2

end Go.Proofs.YtgpdnleooeekbaaDoor.Jnd
