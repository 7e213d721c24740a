/- The format of a query, plain. -/
import Derived.Lib.Join
import Derived.Test.YtgpdnleooeekbaaDoorQryP
namespace Go.Proofs.YtgpdnleooeekbaaDoor.FmtP
open Go.RowKit
open Go.Proofs.YtgpdnleooeekbaaDoor.VarName Go.Proofs.YtgpdnleooeekbaaDoor.Dat Go.Proofs.YtgpdnleooeekbaaDoor.QryP
set_option linter.unusedVariables false

def bl (s : ByteArray) : List UInt8 := s.data.toList
def mkB (l : List UInt8) : ByteArray := ⟨l.toArray⟩
theorem mk_bl (s : ByteArray) : mkB (bl s) = s := by cases s; simp [mkB, bl]
theorem bl_mk (l : List UInt8) : bl (mkB l) = l := by simp [mkB, bl]
theorem size_bl (s : ByteArray) : (bl s).length = s.size := by cases s; simp [bl, ByteArray.size]
theorem size_mk (l : List UInt8) : (mkB l).size = l.length := by simp [mkB, ByteArray.size]
theorem mk_app (l m : List UInt8) : mkB l ++ mkB m = mkB (l ++ m) := by
  apply ByteArray.ext
  simp [mkB]
theorem app_mk (s : ByteArray) (m : List UInt8) : s ++ mkB m = mkB (bl s ++ m) := by rw [← mk_app, mk_bl]
theorem mk_app_s (l : List UInt8) (s : ByteArray) : mkB l ++ s = mkB (l ++ bl s) := by rw [← mk_app, mk_bl]
def vn (v : Int) : List UInt8 := bl (vname v)
theorem vn_len (v : Int) : (vn v).length ≤ 1 := by
  unfold vn vname
  split <;> simp [bl]
def vns (xs : List Int) : List UInt8 := xs.flatMap vn
theorem vns_step (xs : List Int) (k : Nat) (h : k < xs.length) : vns (xs.take (k + 1)) = vns (xs.take k) ++ vn xs[k] := by
  unfold vns
  rw [List.take_succ_eq_append_getElem h, List.flatMap_append]
  simp
theorem vns_len (xs : List Int) : (vns xs).length ≤ xs.length := by
  induction xs with
  | nil => simp [vns]
  | cons x xs ih =>
    have := vn_len x
    unfold vns at ih ⊢
    simp only [List.flatMap_cons, List.length_append, List.length_cons]
    omega
def fv (xs : List Int) : List UInt8 := 40 :: (vns xs ++ [41])
theorem fv_len (xs : List Int) : (fv xs).length ≤ xs.length + 2 := by
  have := vns_len xs
  simp [fv]
  omega
def fa (a : AtomD) : List UInt8 := bl a.1 ++ fv a.2
theorem fa_len (a : AtomD) : (fa a).length ≤ szA a + 2 := by
  have := fv_len a.2
  unfold fa szA
  rw [List.length_append, size_bl]
  omega
theorem join_flat (ys : List (List UInt8)) : Lib.join ys [] = ys.flatten := by
  cases ys with
  | nil => rfl
  | cons y r =>
    rw [Lib.join_cons]
    simp [Lib.joinTail]
theorem join_names (xs : List Int) : Lib.join ((xs.map vname).map (·.data.toList)) [] = vns xs := by
  rw [join_flat, List.map_map]
  unfold vns
  rw [List.flatMap_def]
  rfl
theorem join_snoc (y : List UInt8) (ys : List (List UInt8)) (h : ys ≠ []) : Lib.join (ys ++ [y]) [44] = Lib.join ys [44] ++ 44 :: y := by
  cases ys with
  | nil => exact absurd rfl h
  | cons z r =>
    rw [List.cons_append, Lib.join_cons, Lib.join_cons]
    simp [Lib.joinTail]
/-- The atoms' formats, the first m of them, joined. -/
def jn (us : List AtomD) (m : Nat) : List UInt8 := Lib.join ((us.take m).map fa) [44]
theorem jn_zero (us : List AtomD) : jn us 0 = [] := rfl
theorem jn_one (us : List AtomD) (h : 0 < us.length) : jn us 1 = fa us[0] := by
  unfold jn
  cases us with
  | nil => simp at h
  | cons u r => simp [Lib.join_one]
theorem jn_step (us : List AtomD) (k : Nat) (h : k < us.length) (h0 : 0 < k) : jn us (k + 1) = jn us k ++ 44 :: fa us[k] := by
  unfold jn
  rw [List.take_succ_eq_append_getElem h, List.map_append, List.map_cons, List.map_nil]
  refine join_snoc _ _ (fun e => ?_)
  have h1 := congrArg List.length e
  rw [List.length_map, List.length_take, List.length_nil] at h1
  omega
theorem jn_len (us : List AtomD) (B : Nat) (hB : ∀ j (h : j < us.length), szA us[j] ≤ B) (m : Nat) (hm : m ≤ us.length) : (jn us m).length ≤ m * (B + 3) := by
  induction m with
  | zero => rw [jn_zero]; simp
  | succ m ih =>
    have hlt : m < us.length := by omega
    have h1 := fa_len us[m]
    have h2 := hB m hlt
    have h3 := ih (by omega)
    by_cases h0 : m = 0
    · subst h0
      rw [jn_one us hlt]
      omega
    · rw [jn_step us m hlt (by omega), List.length_append, List.length_cons, Nat.succ_mul]
      omega
def fq (x : QueryD) : ByteArray := if vq x = true then mkB (fv x.2.2 ++ 61 :: jn x.2.1 x.2.1.length) else ⟨#[]⟩
theorem fq_no {x : QueryD} (h : vq x = false) : fq x = ⟨#[]⟩ := if_neg (by rw [h]; decide)
theorem fq_yes {x : QueryD} (h : vq x = true) : fq x = mkB (fv x.2.2 ++ 61 :: jn x.2.1 x.2.1.length) := if_pos h
end Go.Proofs.YtgpdnleooeekbaaDoor.FmtP
