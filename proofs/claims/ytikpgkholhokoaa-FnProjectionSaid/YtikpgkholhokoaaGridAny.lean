/- Appends of headers out of whatever source: nil, empty or full (no program in sight). -/
import Derived.Test.YtikpgkholhokoaaGridApp
namespace Go.Proofs.Ytikpgkholhokoaa.GridAny
open Go.RowKit
open Go.Proofs.Ytikpgkholhokoaa.IntRow Go.Proofs.Ytikpgkholhokoaa.Grid Go.Proofs.Ytikpgkholhokoaa.GridMore Go.Proofs.Ytikpgkholhokoaa.RelKit Go.Proofs.Ytikpgkholhokoaa.GridApp
set_option linter.unusedVariables false

/-- A source of an append: nil, or m cells. -/
def Srcs (w : World) (q : Option Addr) (m : Nat) (us : List Value) : Prop := us.length = m ∧ (∀ u ∈ us, u.oneCell' = true) ∧ ((q = none ∧ m = 0) ∨ ∃ ad, q = some ad ∧ ∀ j u, us[j]? = some u → w.cell? (ad.add j) = some u)
theorem Srcs.on {w W : World} {q : Option Addr} {m : Nat} {us : List Value} (h : Srcs w q m us) (hW : ∀ p u, w.cell? p = some u → W.cell? p = some u) : Srcs W q m us :=
  ⟨h.1, h.2.1, h.2.2.imp id fun ⟨ad, hq, hc⟩ => ⟨ad, hq, fun j u hj => hW _ _ (hc j u hj)⟩⟩
theorem Srcs.drew {w : World} {q : Option Addr} {m : Nat} {us : List Value} (h : Srcs w q m us) : Srcs w.drew q m us := h.on fun _ _ h => h
theorem srcs_own {w : World} {lo n : Nat} {eR : TypeId} {a : Option Addr} {cap : Nat} {us : List Value} (h : w.ownsRow lo eR 1 (.slice a n cap) n us) (h1 : ∀ u ∈ us, u.oneCell' = true) : Srcs w a n us := by
  have hl : us.length = n := by have := h.1; omega
  refine ⟨hl, h1, ?_⟩
  rcases h.2 with ⟨e, h0⟩ | ⟨g, c, cur, e, _⟩
  · injection e with e _ _
    exact .inl ⟨e, h0⟩
  · injection e with e _ _
    subst e
    refine .inr ⟨_, rfl, fun j u hj => ?_⟩
    rw [Addr.add_lit, Nat.zero_add]
    have hjl := (List.getElem?_eq_some_iff.1 hj).1
    exact (h.cellAt j (by omega)).trans hj
section
variable {P : Program}
theorem run_from {t e : TypeId} {i : TypeInfo} (ht : P.underlying t = some (.slice e)) (hi : P.info? e = some i) (hsize : i.size = 1) (a : Option Addr) (n cap p : Nat) (hp : p ≤ n) :
    ∀ W : World, (Instr.sliceAt t (.slice a n cap) (some (.int .i64 (p : Int))) none none).run P W = .ok (.slice (if cap = p then a else a.map (·.add p)) (n - p) (cap - p)) W := fun W => by
  have he : P.elem t = e := by simp [Program.elem, ht]
  rw [run_sliceAt_slice (h := by rw [he]; exact ht), run_slice_l (ht := by rw [he]; exact ht) (h0 := by omega) (h1 := by omega)]
  simp [he, sizeOf, typeInfo, hi, hsize, sliced]
theorem run_upto {t e : TypeId} {i : TypeInfo} (ht : P.underlying t = some (.slice e)) (hi : P.info? e = some i) (hsize : i.size = 1) (a : Option Addr) (n cap p : Nat) (hp : p ≤ cap) :
    ∀ W : World, (Instr.sliceAt t (.slice a n cap) none (some (.int .i64 (p : Int))) none).run P W = .ok (.slice a p cap) W := fun W => by
  have he : P.elem t = e := by simp [Program.elem, ht]
  have ha : a.map (fun x => x.add 0) = a := by
    cases a with
    | none => rfl
    | some x => simp [Addr.add]
  rw [run_sliceAt_slice (h := by rw [he]; exact ht), run_slice_h (ht := by rw [he]; exact ht) (h0 := by omega) (h2 := by omega)]
  simp [he, sizeOf, typeInfo, hi, hsize, sliced, ha]
/-- The two parts of a grid's headers, as sources. -/
theorem parts_of {w : World} {lo : Nat} {eR eI : TypeId} {a : Option Addr} {cap : Nat} {vs : List Value} {xss : List (List Int)} (h : GOwn w lo eR eI (.slice a xss.length cap) vs xss) (t : TypeId) (i : TypeInfo) (ht : P.underlying t = some (.slice eR)) (hi : P.info? eR = some i) (hsize : i.size = 1) (p : Nat) (hp : p ≤ xss.length) :
    ∃ q m c, (∀ W : World, (Instr.sliceAt t (.slice a xss.length cap) (some (.int .i64 (p : Int))) none none).run P W = .ok (.slice q m c) W) ∧
      (∀ W : World, (Instr.sliceAt t (.slice a xss.length cap) none (some (.int .i64 (p : Int))) none).run P W = .ok (.slice a p cap) W) ∧ m + p = xss.length ∧ Srcs w q m (vs.drop p) ∧ Srcs w a p (vs.take p) := by
  have hlen := h.len
  have hone := (rws_of h).oneCell
  have hS := srcs_own h.row hone
  have hcap : xss.length ≤ cap := by
    rcases h.row.2 with ⟨e, h0⟩ | ⟨g, c, cur, e, _, _, hn, _⟩
    · injection e; omega
    · injection e with _ _ e; subst e; exact hn
  refine ⟨_, _, _, run_from ht hi hsize a _ cap p hp, run_upto ht hi hsize a _ cap p (by omega), by omega, ?_, ?_⟩
  · refine ⟨by simp; omega, fun u hu => hone u (List.mem_of_mem_drop hu), ?_⟩
    rcases hS.2.2 with ⟨rfl, h0⟩ | ⟨ad, rfl, hc⟩
    · exact .inl ⟨by simp, by omega⟩
    · by_cases e : cap = p
      · refine .inr ⟨ad, by rw [if_pos e], fun j u hj => ?_⟩
        have hjl := (List.getElem?_eq_some_iff.1 hj).1
        simp at hjl
        omega
      · refine .inr ⟨ad.add p, by rw [if_neg e]; rfl, fun j u hj => ?_⟩
        rw [List.getElem?_drop] at hj
        have e2 : (ad.add p).add j = ad.add (p + j) := by
          unfold Addr.add
          by_cases h1 : p = 0 <;> by_cases h2 : j = 0 <;> simp [h1, h2, Nat.add_assoc]
        rw [e2]
        exact hc _ u hj
  · refine ⟨by simp; omega, fun u hu => hone u (List.mem_of_mem_take hu), ?_⟩
    rcases hS.2.2 with ⟨rfl, h0⟩ | ⟨ad, rfl, hc⟩
    · exact .inl ⟨rfl, by omega⟩
    · refine .inr ⟨ad, rfl, fun j u hj => ?_⟩
      have hjl := (List.getElem?_eq_some_iff.1 hj).1
      rw [List.getElem?_take, if_pos (by simp at hjl; omega)] at hj
      exact hc _ u hj
/-- 'append(s, x...)', s of the call's own, x whatever source. -/
theorem wp_any {o : Oper} {a : Act} {w : World} {K : Act → World → Prop} {Q : Exit → Act → World → Prop} (s x : Operand) (t : TypeId)
    (ho : o.op = .call { callee := .builtin .append, args := #[s, x], argTypes := #[t, t] })
    (base : Nat) (e : TypeId) (i : TypeInfo) (z : Value) (bytes : Nat) (ht : P.underlying t = some (.slice e)) (hi : P.info? e = some i) (hz : i.zero = some z) (hsize : i.size = 1) (hby : i.bytes = bytes) (hzs : z.cells.size = 1)
    (v : Value) (n : Nat) (xs : List Value) (hs : a.eval s = v) (hown : w.ownsRow base e 1 v n xs) (q : Option Addr) (m c : Nat) (us : List Value) (hx : a.eval x = .slice q m c) (hS : Srcs w q m us)
    (h63 : n + m ≤ maxLen) (hbytes : (n + m) * bytes ≤ 140737488355328) (hbase : base ≤ w.heap.size)
    (h : ∀ v' w', w'.ownsRow base e 1 v' (n + m) (xs ++ us) → w.grownBy w' v.ownBlock → K (a.put o.dst v') w') : Oper.wp P o a w K Q := by
  rcases hS.2.2 with ⟨rfl, rfl⟩ | ⟨ad, rfl, hc⟩
  · obtain rfl : us = [] := List.eq_nil_of_length_eq_zero hS.1
    obtain ⟨b, cap, rfl, hle⟩ : ∃ b cap, v = .slice b n cap ∧ n ≤ cap := by
      rcases hown.2 with ⟨rfl, h0⟩ | ⟨g, cc, cur, rfl, _, _, hn, _⟩
      · exact ⟨none, 0, by rw [h0], by omega⟩
      · exact ⟨_, _, rfl, hn⟩
    have hrun := run_none (P := P) w t o.type e i ht hi b n cap c hle
    unfold Oper.wp execOp
    simp only [ho, resolve, invoke, builtin, Sem.run_bind, Sem.run_pure, Result.andThen_ok, List.map_toArray, List.map_cons, List.map_nil, hs, hx, hrun]
    exact h _ _ (by simpa using hown) (World.grownBy.refl _ _)
  · exact wp_append_own w s x t ho base e i z 1 bytes ht hi hz hsize hby hzs (by decide) v n xs hs hown ad m c us hx (by rw [hS.1, Nat.mul_one]) hc hS.2.1 h63 hbytes hbase fun v' w' h2 h3 _ => h v' w' h2 h3
theorem step_any {ops : Array Oper} {o : Oper} {a : Act} {w : World} {K : Act → World → Prop} {Q : Exit → Act → World → Prop} {E : Prop} (hgd : o.guard = none) (s x : Operand) (t : TypeId)
    (ho : o.op = .call { callee := .builtin .append, args := #[s, x], argTypes := #[t, t] })
    (base : Nat) (e : TypeId) (i : TypeInfo) (z : Value) (bytes : Nat) (ht : P.underlying t = some (.slice e)) (hi : P.info? e = some i) (hz : i.zero = some z) (hsize : i.size = 1) (hby : i.bytes = bytes) (hzs : z.cells.size = 1)
    (v : Value) (n : Nat) (xs : List Value) (hs : a.eval s = v) (hown : w.ownsRow base e 1 v n xs) (q : Option Addr) (m c : Nat) (us : List Value) (hx : a.eval x = .slice q m c) (hS : Srcs w q m us)
    (h63 : n + m ≤ maxLen) (hbytes : (n + m) * bytes ≤ 140737488355328) (hbase : base ≤ w.heap.size)
    (h : ∀ v' w', w'.ownsRow base e 1 v' (n + m) (xs ++ us) → w.grownBy w' v.ownBlock → K (a.put o.dst v') w') :
    if Region.wanted o (yielded ops a.tmps) = true then Oper.wp P o a w K Q else E := by
  have hw : Region.wanted o (yielded ops a.tmps) = true := by simp [Region.wanted, hgd]
  rw [if_pos hw]
  exact wp_any s x t ho base e i z bytes ht hi hz hsize hby hzs v n xs hs hown q m c us hx hS h63 hbytes hbase h
theorem wpList_any {ops : Array Oper} {rest : List Oper} {o : Oper} {a : Act} {w : World} {Q : Exit → Act → World → Prop} (hgd : o.guard = none) (s x : Operand) (t : TypeId)
    (ho : o.op = .call { callee := .builtin .append, args := #[s, x], argTypes := #[t, t] })
    (base : Nat) (e : TypeId) (i : TypeInfo) (z : Value) (bytes : Nat) (ht : P.underlying t = some (.slice e)) (hi : P.info? e = some i) (hz : i.zero = some z) (hsize : i.size = 1) (hby : i.bytes = bytes) (hzs : z.cells.size = 1)
    (v : Value) (n : Nat) (xs : List Value) (hs : a.eval s = v) (hown : w.ownsRow base e 1 v n xs) (q : Option Addr) (m c : Nat) (us : List Value) (hx : a.eval x = .slice q m c) (hS : Srcs w q m us)
    (h63 : n + m ≤ maxLen) (hbytes : (n + m) * bytes ≤ 140737488355328) (hbase : base ≤ w.heap.size)
    (h : ∀ v' w', w'.ownsRow base e 1 v' (n + m) (xs ++ us) → w.grownBy w' v.ownBlock → wpList P ops Q rest (a.put o.dst v') w') : wpList P ops Q (o :: rest) a w :=
  wpList_plain hgd fun K hK => wp_any s x t ho base e i z bytes ht hi hz hsize hby hzs v n xs hs hown q m c us hx hS h63 hbytes hbase fun v' w' h2 h3 => hK _ _ (h v' w' h2 h3)
end
end Go.Proofs.Ytikpgkholhokoaa.GridAny
