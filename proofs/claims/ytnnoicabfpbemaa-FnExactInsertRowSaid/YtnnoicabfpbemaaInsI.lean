/- The program's insertion of a row (impl.InsertRow over the library's slices.Insert). -/
import Derived.Test.YtnnoicabfpbemaaGridHd
import Derived.Test.YtnnoicabfpbemaaClones
import Derived.Test.YtnnoicabfpbemaaRelPlaceI
import Derived.Test.YtnnoicabfpbemaaPlc
import Derived.Lib.AppendZerosOnto
import Derived.Laws.CopyOwn
namespace Go.Proofs.Ytnnoicabfpbemaa.InsI
open Go.RowKit Go.Sort
open Go.Proofs.Ytnnoicabfpbemaa.Num Go.Proofs.Ytnnoicabfpbemaa.IntRow Go.Proofs.Ytnnoicabfpbemaa.IntLaw Go.Proofs.Ytnnoicabfpbemaa.Grid Go.Proofs.Ytnnoicabfpbemaa.GridMore Go.Proofs.Ytnnoicabfpbemaa.GridLaw Go.Proofs.Ytnnoicabfpbemaa.GridLaw2 Go.Proofs.Ytnnoicabfpbemaa.Keep Go.Proofs.Ytnnoicabfpbemaa.Kept Go.Proofs.Ytnnoicabfpbemaa.Cells Go.Proofs.Ytnnoicabfpbemaa.RelKit Go.Proofs.Ytnnoicabfpbemaa.GridApp Go.Proofs.Ytnnoicabfpbemaa.GridHd Go.Proofs.Ytnnoicabfpbemaa.Clones Go.Proofs.Ytnnoicabfpbemaa.Asc Go.Proofs.Ytnnoicabfpbemaa.RelValidS Go.Proofs.Ytnnoicabfpbemaa.RelValidI Go.Proofs.Ytnnoicabfpbemaa.RelPlaceS Go.Proofs.Ytnnoicabfpbemaa.RelPlaceI Go.Proofs.Ytnnoicabfpbemaa.Plc
set_option linter.unusedVariables false

section
variable {P : Program}
/-- 'append(s[:i], make(S, k)...)' where there is no room, at the list of a plain region: a new row. -/
theorem wpList_zeros {w : World} {ops : Array Oper} {rest : List Oper} {o : Oper} {a : Act} {Q : Exit → Act → World → Prop} (hgd : o.guard = none) (s x : Operand) (t tn : TypeId)
    (ho : o.op = .call { callee := .builtin .append, args := #[s, x], argTypes := #[t, tn] }) (e : TypeId) (i : TypeInfo) (kn : IntKind) (ht : P.underlying t = some (.slice e)) (htn : P.underlying tn = some (.int kn)) (hi : P.info? e = some i)
    (hz : i.zero = some (.slice none 0 0)) (hsize : i.size = 1) (hby : i.bytes = 24) (g p len k : Nat) (olds : List Value) (hs : a.eval s = .slice (some ⟨g, 0, none⟩) p len) (y : Int) (hx : a.eval x = .int .i64 y) (hy : y = (k : Nat))
    (hl : olds.length = p) (hold : ∀ j v, olds[j]? = some v → w.cell? ((⟨g, 0, none⟩ : Addr).add j) = some v) (hk : 0 < k) (hg : len < p + k) (hn : p + k ≤ 2097152)
    (h : ∀ (c : Nat) (cur : List Value), p + k ≤ c → c ≤ maxLen → cur.length = c → (∃ Z, cur = olds ++ Z) → wpList P ops Q rest (a.put o.dst (.slice (some ⟨w.heap.size, 0, none⟩) (p + k) c)) (w.drew.alloc (.cells cur.toArray e))) :
    wpList P ops Q (o :: rest) a w := by
  refine wpList_plain hgd fun K hK => ?_
  subst hy
  have hm : p + k ≤ maxLen := by unfold maxLen; omega
  have hrun := Go.Lib.run_append_grow_zeros (P := P) w t tn o.type e i (.slice none 0 0) .i64 kn ht htn hi hz (some ⟨g, 0, none⟩) p len olds (run_firstCells_some w.drew i.size p ⟨g, 0, none⟩ p len olds (by rw [hsize, hl, Nat.mul_one]) (fun j v hv => hold j v hv)) k hk (by rw [hsize]; decide) hg (by omega) (by rw [hby]; omega)
    (by rw [hby]; exact growslice_fits hg (by omega))
  have harr : olds.toArray ++ Builtin.zeroCells (Value.slice none 0 0).cells k ++ Builtin.zeroCells (Value.slice none 0 0).cells (grownCap w (p + k) len e - (p + k)) = (olds ++ (Builtin.zeroCells (Value.slice none 0 0).cells k ++ Builtin.zeroCells (Value.slice none 0 0).cells (grownCap w (p + k) len e - (p + k))).toList).toArray := by simp
  rw [harr] at hrun
  have hc := grownCap_ge w (p + k) len e
  have hc2 := grownCap_le_maxLen w (p + k) len e hm
  have hcur : (olds ++ (Builtin.zeroCells (Value.slice none 0 0).cells k ++ Builtin.zeroCells (Value.slice none 0 0).cells (grownCap w (p + k) len e - (p + k))).toList).length = grownCap w (p + k) len e := by
    simp only [List.length_append, hl, Array.length_toList, Array.size_append, size_zeroCells, Value.cells]
    simp
    omega
  have hfin := h _ _ hc hc2 hcur ⟨_, rfl⟩
  generalize olds ++ (Builtin.zeroCells (Value.slice none 0 0).cells k ++ Builtin.zeroCells (Value.slice none 0 0).cells (grownCap w (p + k) len e - (p + k))).toList = cur at hrun hfin
  unfold Oper.wp
  simp [execOp, ho, resolve, invoke, builtin, hs, hx, hrun, Result.andThen]
  exact hK _ _ hfin
end
theorem splice_put {α : Type} (A Z D : List α) (u : α) (p : Nat) (hA : A.length = p) (hZ : 1 + D.length ≤ Z.length) : (splice (splice (A ++ Z) p [u]) (p + 1) D).take (p + 1 + D.length) = A ++ u :: D := by
  have e1 : splice (A ++ Z) p [u] = A ++ [u] ++ Z.drop 1 := by
    subst hA
    simp [splice, List.drop_append]
  have e2 : splice (A ++ [u] ++ Z.drop 1) (p + 1) D = A ++ [u] ++ D ++ (Z.drop 1).drop D.length := by
    have hl : (A ++ [u]).length = p + 1 := by simp [hA]
    unfold splice
    rw [List.take_append_of_le_length (by omega), List.take_of_length_le (by omega), List.drop_append, List.drop_eq_nil_of_le (by omega), hl, show p + 1 + D.length - (p + 1) = D.length by omega]
    simp
  rw [e1, e2, List.take_append_of_le_length (by simp; omega), List.take_of_length_le (by simp; omega)]
  simp
theorem copy_into {P : Program} (w W : World) (T elem ty : TypeId) (H off dLen dCap : Nat) (ad : Addr) (sLen sCap : Nat) (cur cs : List Value) (hu : P.underlying T = some (.slice elem)) (hsz : (P.info? elem).map (·.size) = some 1)
    (hg : W.heap[H]? = some (.cells cur.toArray elem (0, 0))) (hn : cs.length = Nat.min sLen dLen) (hsrc : ∀ j v, cs[j]? = some v → W.cell? (ad.add j) = some v) (hfit : off + cs.length ≤ cur.length) (h1 : ∀ v ∈ cs, v.oneCell' = true)
    (hb : Below w.heap.size w W) (hH : w.heap.size ≤ H) :
    ∃ W', (Builtin.copy_ #[T, T] ty #[.slice (some ⟨H, off, none⟩) dLen dCap, .slice (some ad) sLen sCap]).run P W = .ok (goInt cs.length) W' ∧ Hid (W'.heap[H]? = some (.cells (splice cur off cs).toArray elem (0, 0))) ∧ Hid (Below w.heap.size w W') := by
  have hrun := run_copy_row (P := P) W T T ty elem H off dLen dCap ad sLen sCap cur.toArray elem cs hu hsz hg hn hsrc (by simpa using hfit) h1
  refine ⟨_, hrun, hid ?_, hid (below_setRow hb hH _)⟩
  simpa [splice] using setRow_heap W H _ _ elem _ hg
theorem row_le {w : World} {lo lo' : Nat} {e : TypeId} {z n : Nat} {v : Value} {xs : List Value} (h : w.ownsRow lo e z v n xs) (hl : lo' ≤ lo) : w.ownsRow lo' e z v n xs :=
  ⟨h.1, h.2.imp id fun ⟨g, cap, cur, hv, hb, r⟩ => ⟨g, cap, cur, hv, Nat.le_trans hl hb, r⟩⟩
theorem grown_of_below {w w' : World} {row : Option Nat} (h : Below w.heap.size w w') : w.grownBy w' row := ⟨h.os, h.tape, h.output, h.size, fun k hk _ => h.block k hk⟩

set_option maxRecDepth 100000 in
set_option maxHeartbeats 4000000 in
theorem lib_insert (g lo p bv : Nat) (u : Value) (ys : List Int) (vs : List Value) (xss : List (List Int)) (w : World) (h : GOwn w lo eR eI (.slice (some ⟨g, 0, none⟩) xss.length xss.length) vs xss) (hp : p ≤ xss.length) (hn : xss.length ≤ 1048576)
    (ho : Own w lo eI u ys) (hf : ∀ u' ∈ vs, Far u u') (hlo : lo ≤ w.heap.size) (hu : w.cell? ⟨bv, 0, none⟩ = some u) :
    Calls Try.prog 57 #[.slice (some ⟨g, 0, none⟩) xss.length xss.length, .int .i64 p, .slice (some ⟨bv, 0, none⟩) 1 1] w fun e w' => ∃ a cap, e = .returned (.slice a (xss.take p ++ ys :: xss.drop p).length cap) ∧ GOwn w' lo eR eI (.slice a (xss.take p ++ ys :: xss.drop p).length cap) (vs.take p ++ u :: vs.drop p) (xss.take p ++ ys :: xss.drop p) ∧ w.grownBy w' (some g) ∧ (∀ k, a.map Addr.block = some k → k = g ∨ w.heap.size ≤ k) := by
  obtain ⟨i1, hj, hy0, hy1, hy2⟩ := info_parts GridLaw.info
  have hzl : (xss.take p ++ ys :: xss.drop p).length = xss.length + 1 := by simp; omega
  have hlv := h.len
  have hu1 : u.oneCell' = true := by
    rcases ho.2 with ⟨rfl, _⟩ | ⟨_, _, _, rfl, _⟩ <;> rfl
  have hrw := hid ((rws_of h).put ho hf p)
  have hcell := hid (fun j v hv => gown_cell h j v hv)
  have hrow := hid h.row
  have hone := hid (rws_of h).oneCell
  have hbv : bv < w.heap.size := World.block_lt_of_cell? w _ hu
  have hgs := (h.lt g rfl).2
  have H := hid h
  have HO := hid ho
  clear h ho
  have hp0 : (0 : Int) ≤ (p : Int) := by omega
  have hp1 : (p : Int) ≤ (xss.length : Int) := by omega
  by_cases he : p = xss.length
  · subst he
    have hgo := hid (fun (W : World) (hb : W = w) => (show ∀ j v, [u][j]? = some v → W.cell? ((⟨bv, 0, none⟩ : Addr).add j) = some v from fun j v hj => by
      subst hb
      match j, hj with
      | 0, hj => simp at hj; subst hj; simpa [Addr.add] using hu))
    have hul := hid (show ∀ x ∈ [u], x.oneCell' = true by simpa using hu1)
    clear hu
    go_enter Try.func57, Try.ntmps57
    go_wp2_with (first | (at_builtin; refine wpList_append_lies _ rfl _ _ 24 rfl lo eR i1 (.slice none 0 0) 1 24 Try.underlying24 hj hy0 hy1 hy2 rfl (by decide) _ xss.length vs rfl hrow.out ⟨bv, 0, none⟩ 1 1 [u] rfl rfl (hgo.out _ rfl) hul.out (by decide) (by unfold maxLen; omega) (by omega) hlo _ rfl ?_; intro g' cap' w1 hown hgrow hat hlt))
    have hr := ((rws_of H.out).put HO.out hf xss.length).grown hgrow (fun x hx k hk hk2 => by
      have hk2' : g = k := Option.some.inj hk2
      subst hk2'
      have hm : x = u ∨ x ∈ vs := by
        rcases List.mem_append.1 hx with hx | hx
        · exact .inr (List.mem_of_mem_take hx)
        · rcases List.mem_cons.1 hx with hx | hx
          · exact .inl hx
          · exact .inr (List.mem_of_mem_drop hx)
      rcases hm with rfl | hm
      · obtain ⟨c1, h1⟩ := own_block H.out.row (k := g) rfl
        obtain ⟨c2, h2⟩ := own_block HO.out hk
        rw [h1] at h2
        injection h2 with h2
        injection h2 with _ h3
        exact eRI h3
      · obtain ⟨j, hj2⟩ := List.getElem?_of_mem hm
        exact H.out.far eRI hj2 hk rfl)
    have hvs : vs.take xss.length ++ u :: vs.drop xss.length = vs ++ [u] := by rw [← hlv]; simp
    have G := hr.gown (v := .slice (some ⟨g', 0, none⟩) (xss.length + 1) cap') (eR := eR) (by rw [hzl, hvs]; exact hown)
    have hpos := hid (show ∀ k, (some (⟨g', 0, none⟩ : Addr)).map Addr.block = some k → k = g ∨ w.heap.size ≤ k from fun k hk => by
      have e1 : g' = k := Option.some.inj hk
      rcases hat with h1 | h1
      · have e2 : g = g' := Option.some.inj h1
        exact .inl (by omega)
      · exact .inr (by omega))
    have G2 := hid G
    have G3 := hid (show w.grownBy w1 (some g) from hgrow)
    clear G hr hown hgrow hat hlt
    go_wp2
    go_ret
    exact ⟨some ⟨g', 0, none⟩, cap', by rw [hzl]; rfl, by rw [hzl]; exact G2.out, G3.out, hpos.out⟩
  · have hne : ((p : Int) == (xss.length : Int)) = false := by simp; omega
    have hpl : p < xss.length := by omega
    have hgt : (xss.length : Int) < (xss.length : Int) + 1 := by omega
    have hky : (xss.length : Int) + 1 - (p : Int) = ((xss.length + 1 - p : Nat) : Int) := by omega
    have hpn : p ≤ xss.length := hp
    have h65 : (vs.drop p).length = xss.length - p := by simp; omega
    have N1 := hid (show ∀ j v, (vs.take p)[j]? = some v → w.cell? ((⟨g, 0, none⟩ : Addr).add j) = some v from fun j v hj => by
      have hjp : j < p := by
        have := (List.getElem?_eq_some_iff.1 hj).1
        simp at this
        omega
      rw [List.getElem?_take, if_pos hjp] at hj
      rw [Addr.add_lit, Nat.zero_add]
      exact hcell.out j v hj)
    have N2 := hid (fun (W : World) (hb : Below w.heap.size w W) => (show ∀ j v, (vs.drop p)[j]? = some v → W.cell? ((⟨g, p, none⟩ : Addr).add j) = some v from fun j v hj => by
      rw [List.getElem?_drop] at hj
      rw [Addr.add_lit]
      exact (hb.cell (p := ⟨g, p + j, none⟩) hgs).trans (hcell.out _ v hj)))
    have N3 := hid (fun (W : World) (hb : Below w.heap.size w W) => (show ∀ j v, [u][j]? = some v → W.cell? ((⟨bv, 0, none⟩ : Addr).add j) = some v from fun j v hj => by
      match j, hj with
      | 0, hj => simp at hj; subst hj; exact (hb.cell (p := ⟨bv, 0, none⟩) hbv).trans hu))
    have U1 := hid (show ∀ x ∈ [u], x.oneCell' = true by simpa using hu1)
    have U2 := hid (fun x (hx : x ∈ vs.drop p) => hone x (List.mem_of_mem_drop hx))
    have hsz : (Try.prog.info? eR).map (·.size) = some 1 := by rw [hj]; simp [hy1]
    have B0 := hid (fun (o : Obj) => ((Below.refl w.heap.size w).drew.alloc (Nat.le_refl _) o))
    have ht1 : (vs.take p).length = p := by simp; omega
    have hq1 : (0 : Int) ≤ (p : Int) + 1 := by omega
    have hq2 : ((p : Int) + 1).toNat = p + 1 := by omega
    have hq3 : IntKind.i64.wrap ((p : Int) + 1) = (p : Int) + 1 := by rw [IntKind.wrap_i64]; omega
    have hq4 : p + (xss.length + 1 - p) = xss.length + 1 := by omega
    have hq5 : (p : Int) + 1 ≤ (xss.length : Int) + 1 := by omega
    have hq6 : (p : Int) + 1 ≤ ((xss.length + 1 : Nat) : Int) := by omega
    have hq8 : ¬ xss.length = p := by omega
    have hmin2 : (vs.drop p).length = Nat.min (xss.length - p) (xss.length - p) := by rw [h65]; show _ = min _ _; omega
    have hmin1 : [u].length = Nat.min 1 (xss.length + 1 - p) := by show 1 = min 1 (xss.length + 1 - p); omega
    clear hu hone
    go_enter Try.func57, Try.ntmps57
    go_wp2_with (first
      | (at_builtin; refine wpList_zeros rfl _ _ 24 3 rfl eR i1 .i64 Try.underlying24 Try.underlying3 hj hy0 hy1 hy2 g p xss.length (xss.length + 1 - p) (vs.take p) rfl _ rfl (by first | exact hky | omega) ht1 N1.out (by omega) (by omega) (by omega) ?_; intro c cur hc1 hc2 hcl hZ; have CZ := hid hZ; have hW := hid (show (w.alloc (.cells cur.toArray eR)).drew.heap[w.heap.size]? = some (.cells cur.toArray eR (0, 0)) from Go.heap_alloc_new w _); have bW := hid (show Below w.heap.size w (w.alloc (.cells cur.toArray eR)).drew from B0.out _); have n3 := hid (N3.out _ bW.out); have hfit1 : p + [u].length ≤ cur.length := (by show p + 1 ≤ _; omega); have hq7 : ¬ c = p + 1 := (by omega); have hq9 : ¬ c = p := (by omega); have hq10 : p + 1 ≤ c := (by omega); obtain ⟨w10, hrun1, h10a, b10⟩ := copy_into (P := Try.prog) w _ 24 eR 3 w.heap.size p (xss.length + 1 - p) (c - p) ⟨bv, 0, none⟩ 1 1 cur [u] Try.underlying24 hsz hW.out hmin1 n3.out hfit1 U1.out bW.out (Nat.le_refl _); have h10 := hid (show w10.drew.heap[w.heap.size]? = some (.cells (splice cur p [u]).toArray eR (0, 0)) from h10a.out); have b10d := hid (show Below w.heap.size w w10.drew from b10.out.drew); have n2 := hid (N2.out w10.drew b10d.out); have hfit2 : p + 1 + (vs.drop p).length ≤ (splice cur p [u]).length := (by rw [length_splice _ _ _ hfit1]; omega); obtain ⟨w11, hrun2, h11, b11⟩ := copy_into (P := Try.prog) w w10.drew 24 eR 3 w.heap.size (p + 1) (xss.length - p) (c - (p + 1)) ⟨g, p, none⟩ (xss.length - p) (xss.length - p) (splice cur p [u]) (vs.drop p) Try.underlying24 hsz h10.out hmin2 n2.out hfit2 U2.out b10d.out (Nat.le_refl _); clear hZ))
    go_wp2_with fail
    go_region
    all_goals
      obtain ⟨Z, hZ⟩ := CZ.out
      have hzlen : p + Z.length = c := by rw [← hcl, hZ, List.length_append, ht1]
      have hsp := splice_put (vs.take p) Z (vs.drop p) u p ht1 (by omega)
      rw [← hZ] at hsp
      have hlast : (splice (splice cur p [u]) (p + 1) (vs.drop p)).length = c := by rw [length_splice _ _ _ hfit2, length_splice _ _ _ hfit1, hcl]
      have hrow11 : w11.ownsRow w.heap.size eR 1 (.slice (some ⟨w.heap.size, 0, none⟩) (xss.length + 1) c) (xss.length + 1) (vs.take p ++ u :: vs.drop p) :=
        ⟨by simp; omega, .inr ⟨w.heap.size, c, _, rfl, Nat.le_refl _, h11.out, by omega, hc2, by simpa using hlast, by
          rw [show (xss.length + 1) * 1 = p + 1 + (vs.drop p).length by omega]
          simpa using hsp⟩⟩
      have G := (hrw.out.below' b11.out).gown (v := .slice (some ⟨w.heap.size, 0, none⟩) (xss.length + 1) c) (eR := eR) (by rw [hzl]; exact row_le hrow11 hlo)
      have G2 := hid G
      have G3 := hid (grown_of_below (row := some g) b11.out)
      clear G hrow11 hlast hsp hzlen hZ
      go_wp2
      go_ret
      exact ⟨some ⟨w.heap.size, 0, none⟩, c, by rw [hzl]; rfl, by rw [hzl]; exact G2.out, G3.out, fun k hk => .inr (by have e1 : w.heap.size = k := Option.some.inj hk; omega)⟩
end Go.Proofs.Ytnnoicabfpbemaa.InsI
