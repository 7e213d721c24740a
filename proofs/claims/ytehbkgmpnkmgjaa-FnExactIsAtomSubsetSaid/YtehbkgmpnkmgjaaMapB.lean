/- A set kept as map[int]bool that the call makes: the look-up of a bool element at the operation; what is there after k stores of 'true'. -/
import Derived.Maps.OwnSet
import Derived.Maps.OwnOps
namespace Go.Proofs.Ytehbkgmpnkmgjaa.MapB
open Go.Maps (Keyed)
set_option linter.unusedVariables false

/-- The keys are the numbers xs, each with 'true'. -/
def DB (xs : List Int) : DataW Unit := Maps.setOf (.lit (.bool true)) (xs.map (Lit.int .i64))

theorem db_nil : DB [] = .map [] := rfl
theorem db_snoc (xs : List Int) (x : Int) : DB (xs ++ [x]) = (DB xs).put (.int .i64 x) (.lit (.bool true)) := by
  unfold DB; rw [List.map_append]; exact Maps.setOf_snoc _ _ _

theorem key_int (x : Int) : WideAt.IsKeyLit (.int .i64 x) := by simp [WideAt.IsKeyLit]

theorem at_no (k : Lit) (z : DataW Unit) : ∀ (acc : List Lit) (m : DataW Unit), ¬ k ∈ acc →
    (acc.foldl (fun m x => m.put x (.lit (.bool true))) m).atKey k z = m.atKey k z
  | [], m, _ => rfl
  | x :: r, m, hn => by
    rw [List.foldl_cons, at_no k z r _ (fun h => hn (List.mem_cons_of_mem _ h)), Maps.atKey_put_other (fun e => by subst e; exact hn List.mem_cons_self)]
theorem at_yes (k : Lit) (z : DataW Unit) : ∀ (acc : List Lit) (m : DataW Unit), Maps.IsMap m → (∀ x ∈ acc, WideAt.IsKeyLit x) → k ∈ acc →
    (acc.foldl (fun m x => m.put x (.lit (.bool true))) m).atKey k z = .lit (.bool true)
  | [], m, _, _, h => by cases h
  | x :: r, m, hm, hk, h => by
    rw [List.foldl_cons]
    by_cases hr : k ∈ r
    · exact at_yes k z r _ (hm.put _ _) (fun y hy => hk y (List.mem_cons_of_mem _ hy)) hr
    · rw [at_no k z r _ hr]
      rcases List.mem_cons.1 h with e | e
      · subst e; exact Maps.atKey_put_same hm (hk _ List.mem_cons_self) _ _
      · exact absurd e hr

theorem db_at (xs : List Int) (x : Int) : (DB xs).atKey (.int .i64 x) (.lit (.bool false)) = .lit (.bool (decide (x ∈ xs))) := by
  unfold DB Maps.setOf
  by_cases h : x ∈ xs
  · rw [at_yes _ _ _ _ Maps.isMap_empty (by intro y hy; obtain ⟨a, _, rfl⟩ := List.mem_map.1 hy; exact key_int a) (List.mem_map.2 ⟨x, h, rfl⟩)]; simp [h]
  · have hn : ¬ Lit.int .i64 x ∈ xs.map (Lit.int .i64) := by
      intro hm
      obtain ⟨a, ha, e⟩ := List.mem_map.1 hm
      injection e with e1 e2
      subst e2
      exact h ha
    rw [at_no _ _ _ _ hn]
    simp [h, DataW.atKey]

theorem plainElem_bool_inv {H : Type} {P : Program} {e : TypeId} (he : P.underlying e = some .bool) {v : Value} {z : DataW H × List MemPlace} (h : plainElem P e v = some z) : ∃ b, v = .bool b ∧ z = (.lit (.bool b), []) := by
  unfold plainElem at h
  rw [he] at h
  cases v <;> simp at h
  subst h
  exact ⟨_, rfl, rfl⟩

/-- 'm[k]' at a map of bools that the call made. -/
theorem wpList_lookup_bool {P : Program} (w : World) {ops : Array Oper} {rest : List Oper} {o : Oper} {a : Act} {Q : Exit → Act → World → Prop}
    (hg : o.guard = none) (m x : Operand) (t : TypeId) (hop : o.op = Op.lookup t m x false)
    (k e : TypeId) (K : Keyed P k) (ht : P.underlying t = some (.map k e)) (he : P.underlying e = some .bool) (hz : (zeroValue e).run P w = .ok (.bool false) w) (b n : Nat) (xs : List Int)
    (hm : a.eval m = .map (some b)) (hown : w.ownsMap P k (plainElem P e) b n (DB xs)) (y : Int) (hx : a.eval x = .int .i64 y) (hkey : keyOf P k (.int .i64 y) = some (.int .i64 y))
    (hK : wpList P ops Q rest (a.put o.dst (.bool (decide (y ∈ xs)))) w) :
    wpList P ops Q (o :: rest) a w := by
  refine wpList_plain hg fun K' hK' => ?_
  obtain ⟨v, ps, hrun, hv⟩ := hown.lookup K ht hz (plainElem_bool he false) hkey
  obtain ⟨c, rfl, hc⟩ := plainElem_bool_inv he hv
  simp only [Prod.mk.injEq] at hc
  have e1 : c = decide (y ∈ xs) := by
    have := hc.1; rw [db_at] at this; injection this with h1; injection h1 with h2; exact h2.symm
  subst e1
  unfold Oper.wp
  simp [execOp, hop, hm, hx, hrun, Result.andThen]
  exact hK' _ _ hK
end Go.Proofs.Ytehbkgmpnkmgjaa.MapB
