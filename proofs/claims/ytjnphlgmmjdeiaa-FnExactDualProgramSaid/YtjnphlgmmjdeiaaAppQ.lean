/- Appends of rows of rationals, and of a row's header, in regions that draw their order (no program in sight). -/
import Derived.Test.YtjnphlgmmjdeiaaGridQ2
namespace Go.Proofs.Ytjnphlgmmjdeiaa.AppQ
open Go.RowKit
open Go.Proofs.Ytjnphlgmmjdeiaa.IntRow Go.Proofs.Ytjnphlgmmjdeiaa.Grid Go.Proofs.Ytjnphlgmmjdeiaa.GridMore Go.Proofs.Ytjnphlgmmjdeiaa.Rdr Go.Proofs.Ytjnphlgmmjdeiaa.HasL Go.Proofs.Ytjnphlgmmjdeiaa.Rats Go.Proofs.Ytjnphlgmmjdeiaa.RatRow Go.Proofs.Ytjnphlgmmjdeiaa.RatOwn Go.Proofs.Ytjnphlgmmjdeiaa.GridQ Go.Proofs.Ytjnphlgmmjdeiaa.GridQ2
set_option linter.unusedVariables false

theorem fr_one (xs : List RatD) : ∀ u ∈ fr xs, u.oneCell' = true := by
  induction xs with
  | nil => intro u hu; cases hu
  | cons p ps ih =>
    intro u hu
    simp only [fr, List.mem_cons] at hu
    rcases hu with rfl | rfl | h
    · rfl
    · rfl
    · exact ih u h
theorem els_cells {w : World} {lo hi : Nat} {a : Option Addr} {xs : List RatD} (h : Els 2 rRat w lo hi a xs) (h0 : 0 < xs.length) : ∃ b off, a = some ⟨b, off, none⟩ ∧ ∀ i u, (fr xs)[i]? = some u → w.cell? ⟨b, off + i, none⟩ = some u := by
  obtain ⟨b, off, rfl, h1, h2, _⟩ := h h0
  refine ⟨b, off, rfl, fun i u hu => ?_⟩
  have hi2 : i < (fr xs).length := (List.getElem?_eq_some_iff.1 hu).1
  rw [fr_len] at hi2
  have hj : i / 2 < xs.length := by omega
  obtain ⟨b', off', e, _, _, c0, c1⟩ := rats_at h (i / 2) hj
  simp only [Option.some.injEq, Addr.mk.injEq, and_true] at e
  obtain ⟨rfl, rfl⟩ := e
  have hf := fr_at xs (i / 2) hj
  rcases Nat.mod_two_eq_zero_or_one i with e | e
  · rw [show i = i / 2 * 2 by omega] at hu ⊢
    rw [hf.1] at hu
    rw [← hu]
    exact c0
  · rw [show i = i / 2 * 2 + 1 by omega] at hu ⊢
    rw [hf.2] at hu
    rw [← hu]
    exact c1
/-- One rational in a block, read as a slice. -/
theorem els_lit {w : World} {q : Nat} {y : RatD} (h : HasL w q [.int .i64 y.1, .int .i64 y.2]) (hy : Ib y.1 ∧ Ib y.2) : Els 2 rRat w 0 w.heap.size (some ⟨q, 0, none⟩) [y] := fun _ => by
  refine ⟨q, 0, rfl, Nat.zero_le _, h.1, fun j hj => ?_⟩
  simp at hj
  subst hj
  exact ⟨[.int .i64 y.1, .int .i64 y.2], rfl, fun i hi => by simpa using (h.2 i hi).1, rat_mk hy.1 hy.2⟩
theorem hasl_grown {w w' : World} {b : Nat} {vs : List Value} {row : Option Nat} (h : HasL w b vs) (hg : w.grownBy w' row) (hne : row ≠ some b) : HasL w' b vs := by
  have hb := hg.block b h.1 hne.symm
  refine ⟨Nat.lt_of_lt_of_le h.1 hg.size, fun i hi => ⟨(World.cell?_of_block (w := w) (a := ⟨b, i, none⟩) hb).trans (h.2 i hi).1, ?_⟩⟩
  have hf := (h.2 i hi).2
  unfold World.frozen? at hf ⊢
  dsimp only at hf ⊢
  rw [hb]
  exact hf
theorem below_of {lo : Nat} {w w' : World} {row : Option Nat} (hg : w.grownBy w' row) (hlo : lo ≤ w.heap.size) (hr : ∀ k, row = some k → lo ≤ k) : Below lo w w' :=
  ⟨hg.os, hg.tape, hg.output, hg.size, fun k hk => hg.block k (by omega) (fun e => by have := hr k e.symm; omega)⟩
section
variable {P : Program}
/-- 'append(s, x...)' of rationals, s of the call's own, x any list with an element. -/
theorem step_app {ops : Array Oper} {o : Oper} {a : Act} {W : World} {K : Act → World → Prop} {Q : Exit → Act → World → Prop} {E : Prop} (hgd : o.guard = none) (s x : Operand) (t : TypeId)
    (ho : o.op = .call { callee := .builtin .append, args := #[s, x], argTypes := #[t, t] })
    (base : Nat) (e : TypeId) (i : TypeInfo) (ht : P.underlying t = some (.slice e)) (hi : P.info? e = some i) (hz : i.zero = some (.agg #[.int .i64 0, .int .i64 0]))
    (hsize : i.size = 2) (hby : i.bytes = 16) (v : Value) (l ys : List RatD) (hown : OwnR W base e v l) (hs : a.eval s = v) (lo hi' n c : Nat) (q : Option Addr) (hx : a.eval x = .slice q n c) (hn : n = ys.length) (hsrc : Els 2 rRat W lo hi' q ys) (h0 : 0 < ys.length)
    (hbase : base ≤ W.heap.size) (hlen : l.length + ys.length ≤ 4398046511104)
    (h : ∀ v' w', OwnR w' base e v' (l ++ ys) → W.grownBy w' v.ownBlock → K (a.put o.dst v') w') :
    if Region.wanted o (yielded ops a.tmps) = true then Oper.wp P o a W K Q else E := by
  have hw : Region.wanted o (yielded ops a.tmps) = true := by simp [Region.wanted, hgd]
  rw [if_pos hw]
  subst hn
  obtain ⟨b, off, rfl, hc⟩ := els_cells hsrc h0
  refine wp_append_own _ s x t ho base e i (.agg #[.int .i64 0, .int .i64 0]) 2 16 ht hi hz hsize hby rfl (by decide) v l.length (fr l) hs hown ⟨b, off, none⟩ ys.length c (fr ys) hx (fr_len ys) ?_ (fr_one ys) ?_ ?_ hbase ?_
  · intro j u hj
    rw [Addr.add_lit]
    exact hc j u hj
  · unfold maxLen; omega
  · omega
  · intro v' w' hown' hgrow _
    refine h v' w' ?_ hgrow
    unfold OwnR
    rw [fr_app, List.length_append]
    exact hown'
/-- 'append(rows, row)', the row's header alone behind. -/
theorem step_headQ {ops : Array Oper} {o : Oper} {a : Act} {K : Act → World → Prop} {Q : Exit → Act → World → Prop} {E : Prop} (hgd : o.guard = none) (s x : Operand) (t : TypeId)
    (ho : o.op = .call { callee := .builtin .append, args := #[s, x], argTypes := #[t, t] })
    (eR eI : TypeId) (hne : eR ≠ eI) (i : TypeInfo) (ht : P.underlying t = some (.slice eR)) (hi : P.info? eR = some i) (hz : i.zero = some (.slice none 0 0)) (hsize : i.size = 1) (hby : i.bytes = 24)
    (w0 : World) (lo : Nat) (v u : Value) (vs : List Value) (xss : List (List RatD)) (ys : List RatD) (hs : a.eval s = v) (hg : GOwnQ w0 lo eR eI v vs xss) (hu : OwnQ w0 lo eI u ys) (hf : ∀ u' ∈ vs, Far u u') (hx : a.eval x = .slice (some ⟨w0.heap.size, 0, none⟩) 1 1) (hn : xss.length ≤ 1048576) (hlo : lo ≤ w0.heap.size)
    (h : ∀ v' w', GOwnQ w' lo eR eI v' (vs ++ [u]) (xss ++ [ys]) → w0.grownBy w' v.ownBlock → K (a.put o.dst v') w') :
    if Region.wanted o (yielded ops a.tmps) = true then Oper.wp P o a (w0.alloc (.cells #[u] eR)) K Q else E := by
  have hw : Region.wanted o (yielded ops a.tmps) = true := by simp [Region.wanted, hgd]
  rw [if_pos hw]
  have hA := hg.alloc (.cells #[u] eR)
  have hu1 : u.oneCell' = true := by
    rcases hu.1.2 with ⟨rfl, _⟩ | ⟨g, cap, cur, rfl, _⟩ <;> rfl
  refine wp_append_own _ s x t ho lo eR i (.slice none 0 0) 1 24 ht hi hz hsize hby rfl (by decide) v xss.length vs hs hA.row ⟨w0.heap.size, 0, none⟩ 1 1 [u] hx rfl ?_ (by simpa using hu1) (by unfold maxLen; omega) (by omega) (by simp; omega) ?_
  · intro j u' hj
    match j, hj with
    | 0, hj => simp at hj; subst hj; simp [Addr.add]
  · intro v' w' hown hgr _
    have hz0 := hgr.size
    simp only [World.size_alloc] at hz0
    refine h v' w' (hA.push hne (hu.alloc _) (fun j u' k hj hk => hf u' (List.mem_of_getElem? hj) k hk) hown hgr) ?_
    refine ⟨hgr.os, hgr.tape, hgr.output, by omega, fun k hk hr => ?_⟩
    rw [hgr.block k (by simp; omega) hr, Below.heap_alloc _ _ _ hk]
end
end Go.Proofs.Ytjnphlgmmjdeiaa.AppQ
