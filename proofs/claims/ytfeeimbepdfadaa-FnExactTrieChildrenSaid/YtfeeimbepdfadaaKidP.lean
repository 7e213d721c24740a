/- The values behind a prefix, plain: what slices.Compact computes (no program in sight). -/
import Derived.Test.YtfeeimbepdfadaaTriP
import Derived.Lib.SlicesCompact
namespace Go.Proofs.Ytfeeimbepdfadaa.KidP
open Go.Proofs.Ytfeeimbepdfadaa.Vals Go.Proofs.Ytfeeimbepdfadaa.CmpL Go.Proofs.Ytfeeimbepdfadaa.Asc Go.Proofs.Ytfeeimbepdfadaa.TriP
set_option linter.unusedVariables false

theorem foldK_append (xs ys out : List Int) : (xs ++ ys).foldl pushK out = ys.foldl pushK (xs.foldl pushK out) := List.foldl_append
theorem foldK_last : ∀ (n : Nat) (zs : List Int), zs.length = n → (zs.foldl pushK []).getLast? = zs.getLast?
  | 0, zs, h => by obtain rfl := List.eq_nil_of_length_eq_zero h; rfl
  | n + 1, zs, h => by
    obtain ⟨l, c, rfl⟩ : ∃ l c, zs = l ++ [c] := ⟨zs.dropLast, zs.getLast (by intro e; simp [e] at h), (List.dropLast_concat_getLast _).symm⟩
    have ih := foldK_last n l (by simpa using h)
    rw [foldK_append]
    simp only [List.foldl_cons, List.foldl_nil, List.getLast?_append, List.getLast?_singleton]
    unfold pushK
    split
    · next h1 => rw [h1]; simp
    · simp
theorem compact_fold (zs : List Int) : Lib.compact zs = zs.foldl pushK [] := by
  unfold Lib.compact
  suffices h : ∀ k, k ≤ zs.length → Lib.compactUpTo zs.toArray k = (zs.take k).foldl pushK [] by rw [h zs.length (Nat.le_refl _), List.take_length]
  intro k
  induction k with
  | zero => intro _; simp [Lib.compactUpTo]
  | succ k ih =>
    intro hk
    have hk' : k < zs.length := hk
    have hat : zs.toArray[k]! = zs[k] := by rw [getElem!_pos zs.toArray k (by simpa using hk')]; simp
    rw [Lib.compactUpTo_succ, ih (by omega), List.take_succ_eq_append_getElem hk', foldK_append, hat]
    have hl := foldK_last (zs.take k).length (zs.take k) rfl
    simp only [List.foldl_cons, List.foldl_nil]
    rw [show pushK ((zs.take k).foldl pushK []) zs[k] = if ((zs.take k).foldl pushK []).getLast? = some zs[k] then (zs.take k).foldl pushK [] else (zs.take k).foldl pushK [] ++ [zs[k]] from rfl, hl]
    by_cases h0 : k = 0
    · subst h0
      simp [Lib.keeps]
    · have hat2 : zs.toArray[k - 1]! = zs[k - 1] := by rw [getElem!_pos zs.toArray (k - 1) (by simp; omega)]; simp
      have hlast : (zs.take k).getLast? = some zs[k - 1] := by
        rw [List.getLast?_eq_getElem?, List.length_take, Nat.min_eq_left (by omega), List.getElem?_take, if_pos (by omega), List.getElem?_eq_getElem (by omega)]
      rw [hlast]
      by_cases he : zs[k] = zs[k - 1]
      · rw [Lib.keeps_neg (by omega) (by rw [hat, hat2, he])]
        simp [he]
      · have he' : ¬ zs[k - 1] = zs[k] := fun e => he e.symm
        rw [Lib.keeps_pos (by rw [hat, hat2]; exact he)]
        simp [he']
theorem compact_le (zs : List Int) : (Lib.compact zs).length ≤ zs.length := by
  have := foldK_len zs []
  rw [compact_fold]
  simpa using this

/-- Of the rows from lo on, the first k: their values behind the prefix. -/
def kvals (xss : List (List Int)) (q lo k : Nat) : List Int := ((xss.drop lo).take k).map (fun r => r[q]?.getD 0)
theorem kvals_zero (xss : List (List Int)) (q lo : Nat) : kvals xss q lo 0 = [] := by simp [kvals]
theorem kvals_step {xss : List (List Int)} {q lo k : Nat} (h : lo + k < xss.length) (hq : q < xss[lo + k].length) : kvals xss q lo (k + 1) = kvals xss q lo k ++ [xss[lo + k][q]] := by
  unfold kvals
  rw [List.take_succ_eq_append_getElem (by simp; omega)]
  simp [List.getElem_drop, List.getElem?_eq_getElem hq]
theorem kvals_len {xss : List (List Int)} {q lo k : Nat} (h : lo + k ≤ xss.length) : (kvals xss q lo k).length = k := by simp [kvals]; omega
theorem kids_vals {n : Int} {xss : List (List Int)} {p : List Int} (h : (p.length : Int) < n) : kids n xss p = (kvals xss p.length (rlo n xss p) (rhi n xss p - rlo n xss p)).foldl pushK [] := by
  unfold kids kidsOf kvals
  rw [if_pos h, List.drop_take]
theorem kids_no {n : Int} {xss : List (List Int)} {p : List Int} (h : ¬ (p.length : Int) < n) : kids n xss p = [] := by
  unfold kids kidsOf
  rw [if_neg h]
  rfl
end Go.Proofs.Ytfeeimbepdfadaa.KidP
