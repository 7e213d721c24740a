/- The program's GYO reduction (reduceAtoms): the removed atoms and the forest are those of the plain one. -/
import Derived.Test.YtaeeogighoobdaaGyoI
import Derived.Test.YtaeeogighoobdaaRepI
import Derived.Test.YtaeeogighoobdaaLawKit
import Derived.Test.YtaeeogighoobdaaKeep
import Derived.Test.YtaeeogighoobdaaKept
import Derived.Deep.RegionHeld3
import Derived.Deep.DeepCutAuto
import Derived.Deep.LoopGhost
import Derived.Deep.AppendLies
import Derived.WalkMore
namespace Go.Proofs.Ytaeeogighoobdaa.GyoR
open Go.RowKit
open Go.Proofs.Ytaeeogighoobdaa.Num Go.Proofs.Ytaeeogighoobdaa.IntRow Go.Proofs.Ytaeeogighoobdaa.IntLaw Go.Proofs.Ytaeeogighoobdaa.Rdr Go.Proofs.Ytaeeogighoobdaa.Dat Go.Proofs.Ytaeeogighoobdaa.HasL Go.Proofs.Ytaeeogighoobdaa.SetV Go.Proofs.Ytaeeogighoobdaa.SetJ Go.Proofs.Ytaeeogighoobdaa.Apnd Go.Proofs.Ytaeeogighoobdaa.CatE Go.Proofs.Ytaeeogighoobdaa.CatInt Go.Proofs.Ytaeeogighoobdaa.Gyo Go.Proofs.Ytaeeogighoobdaa.GyoI Go.Proofs.Ytaeeogighoobdaa.RepI Go.Proofs.Ytaeeogighoobdaa.LawKit Go.Proofs.Ytaeeogighoobdaa.Keep Go.Proofs.Ytaeeogighoobdaa.Kept
set_option linter.unusedVariables false

/-! ### plain: the remaining atoms as a list -/
def rem (L : List Bool) : List Nat := (List.range L.length).filter (lv L)
theorem rem_mem {L : List Bool} {k : Nat} : k ∈ rem L ↔ k < L.length ∧ lv L k = true := by simp [rem]
theorem rem_nodup (L : List Bool) : (rem L).Nodup := List.nodup_range.filter _
theorem rem_all (n : Nat) : rem (List.replicate n true) = List.range n := by
  unfold rem
  rw [List.length_replicate, List.filter_eq_self]
  intro a ha
  have : a < n := List.mem_range.1 ha
  simp [lv, this]
theorem filter_ne : ∀ (xs : List Nat) (p : Nat) (hp : p < xs.length), xs.Nodup → xs.filter (fun j => decide (j ≠ xs[p])) = xs.take p ++ xs.drop (p + 1)
  | [], p, hp, _ => by simp at hp
  | x :: xs, 0, _, h => by
    have hx := (List.nodup_cons.1 h).1
    simp only [List.getElem_cons_zero, List.take_zero, List.nil_append, Nat.zero_add, List.drop_succ_cons, List.drop_zero]
    rw [List.filter_cons, if_neg (by simp), List.filter_eq_self]
    intro a ha
    simp only [decide_eq_true_eq]
    exact fun e => hx (e ▸ ha)
  | x :: xs, p + 1, hp, h => by
    obtain ⟨hx, hn⟩ := List.nodup_cons.1 h
    have hp' : p < xs.length := by simpa using hp
    have ih := filter_ne xs p hp' hn
    simp only [List.getElem_cons_succ, List.take_succ_cons, List.drop_succ_cons, List.cons_append]
    rw [List.filter_cons, if_pos (by
      simp only [decide_eq_true_eq]
      exact fun e => hx (by rw [e]; exact List.getElem_mem hp')), ih]
def oth (xs : List Nat) (p : Nat) : List Nat := xs.take p ++ xs.drop (p + 1)
theorem rem_set {L : List Bool} {p : Nat} (hp : p < (rem L).length) : rem (L.set (rem L)[p] false) = oth (rem L) p := by
  unfold oth
  rw [← filter_ne (rem L) p hp (rem_nodup L)]
  generalize (rem L)[p] = a
  show (List.range (L.set a false).length).filter (lv (L.set a false)) = ((List.range L.length).filter (lv L)).filter (fun j => decide (j ≠ a))
  rw [List.filter_filter, List.length_set]
  congr 1
  funext j
  rw [lv_set, Bool.and_comm]
theorem any_fil {xs : List Nat} {p q : Nat → Bool} : (xs.filter p).any q = xs.any (fun j => p j && q j) := by
  induction xs with
  | nil => rfl
  | cons x xs ih =>
    rw [List.filter_cons]
    cases h : p x <;> simp [h, ih]
theorem find_fil {xs : List Nat} {p q : Nat → Bool} : (xs.filter p).find? q = xs.find? (fun j => p j && q j) := by
  induction xs with
  | nil => rfl
  | cons x xs ih =>
    rw [List.filter_cons]
    cases h : p x with
    | false => simp [h, ih]
    | true => simp [ih, List.find?_cons, h]
theorem find_congr {xs : List Nat} {p q : Nat → Bool} (h : ∀ j, p j = q j) : xs.find? p = xs.find? q := by rw [show p = q from funext h]
theorem par_is {us : List AtomD} {L : List Bool} {p : Nat} (hl : L.length = us.length) (hp : p < (rem L).length) : par us (rem L)[p] (oth (rem L) p) = earK us L (rem L)[p] := by
  have hlv : lv L (rem L)[p] = true := (rem_mem.1 (List.getElem_mem hp)).2
  have ho : oth (rem L) p = (List.range us.length).filter (fun j => decide (j ≠ (rem L)[p]) && lv L j) := by
    unfold oth
    rw [← filter_ne (rem L) p hp (rem_nodup L)]
    generalize (rem L)[p] = a
    show ((List.range L.length).filter (lv L)).filter (fun j => decide (j ≠ a)) = _
    rw [List.filter_filter, hl]
  obtain ⟨a, ha⟩ : ∃ z, (rem L)[p] = z := ⟨_, rfl⟩
  rw [ha] at hlv ho ⊢
  rw [ho]
  unfold par earK
  rw [find_fil]
  refine find_congr fun k => ?_
  unfold okE
  rw [hlv, Bool.true_and]
  have e1 : decide (k ≠ a) = decide (a ≠ k) := decide_eq_decide.2 ne_comm
  rw [e1, Bool.and_comm (decide (a ≠ k))]
  congr 1
  unfold subO fits
  congr 1
  funext v
  unfold fitAt
  have e2 : anyO us ((List.range us.length).filter (fun j => decide (j ≠ a) && lv L j)) v = shd us L a v := by
    unfold anyO shd
    rw [any_fil]
    congr 1
    funext j
    rw [Bool.and_comm (decide (j ≠ a))]
  rw [e2]
  cases mv us a v <;> cases shd us L a v <;> cases mv us k v <;> rfl
theorem ear_rem {us : List AtomD} {L : List Bool} (hl : L.length = us.length) : ear us L = (rem L).find? fun i => (earK us L i).isSome := by
  unfold ear rem
  rw [find_fil, hl]
  refine find_congr fun i => ?_
  cases h : lv L i with
  | true => rw [Bool.true_and]
  | false =>
    rw [earK_none (fun k _ => by unfold okE; rw [h]; rfl)]
    rfl
theorem stp_at {us : List AtomD} {S : St} {p k : Nat} (hl : S.left.length = us.length) (hp : p < (rem S.left).length) (h1 : ∀ j (h : j < (rem S.left).length), j < p → earK us S.left (rem S.left)[j] = none) (h2 : earK us S.left (rem S.left)[p] = some k) :
    stp us S = some ⟨S.out ++ [((rem S.left)[p] : Int)], S.up.set (rem S.left)[p] (k : Int), S.left.set (rem S.left)[p] false⟩ := by
  have e2 : ear us S.left = some (rem S.left)[p] := by
    rw [ear_rem hl, List.find?_eq_some_iff_getElem]
    exact ⟨by rw [h2]; rfl, p, hp, rfl, fun j hj => by rw [h1 j (by omega) hj]; rfl⟩
  rw [stp, e2]
  simp only [h2]
theorem stp_end {us : List AtomD} {S : St} (hl : S.left.length = us.length) (h1 : ∀ j (h : j < (rem S.left).length), earK us S.left (rem S.left)[j] = none) : stp us S = none := by
  have e2 : ear us S.left = none := by
    rw [ear_rem hl, List.find?_eq_none]
    intro x hx
    obtain ⟨j, hj, rfl⟩ := List.getElem_of_mem hx
    rw [h1 j hj]
    decide
  rw [stp, e2]
theorem earK_lt {us : List AtomD} {L : List Bool} {i k : Nat} (h : earK us L i = some k) : k < us.length := by
  unfold earK at h
  exact List.mem_range.1 (List.mem_of_find?_eq_some h)

/-! ### what the walk holds -/
structure Bs (W : World) (M n b3 gs b5 g2 : Nat) (ms : List Nat) (up : List Int) : Prop where
  hr : HasL W b3 [.slice none 0 0]
  hs : HasL W gs (uc ms)
  hb : HasL W b5 [.slice (some ⟨g2, 0, none⟩) n n]
  hu : At W g2 3 n up
  l1 : b3 < M ∧ gs < M ∧ b5 < M ∧ g2 < M
  l2 : b3 ≠ g2 ∧ gs ≠ g2 ∧ b5 ≠ g2
  l3 : b3 ≠ b5 ∧ b3 ≠ gs
  lM : M ≤ W.heap.size
theorem Bs.under {W W' : World} {M n b3 gs b5 g2 : Nat} {ms : List Nat} {up : List Int} (h : Bs W M n b3 gs b5 g2 ms up) (hb : Below M W W') : Bs W' M n b3 gs b5 g2 ms up :=
  ⟨h.hr.under hb h.l1.1, h.hs.under hb h.l1.2.1, h.hb.under hb h.l1.2.2.1, h.hu.below hb h.l1.2.2.2, h.l1, h.l2, h.l3, Nat.le_trans h.lM hb.size⟩
theorem Bs.below {W W' : World} {M n b3 gs b5 g2 : Nat} {ms : List Nat} {up : List Int} (h : Bs W M n b3 gs b5 g2 ms up) (hb : Below W.heap.size W W') : Bs W' M n b3 gs b5 g2 ms up := h.under (hb.mono h.lM)
theorem Bs.put {W : World} {M n b3 gs b5 g2 : Nat} {ms : List Nat} {up : List Int} (h : Bs W M n b3 gs b5 g2 ms up) (i : Nat) (z : Int) : Bs (W.setCell ⟨g2, i, none⟩ (.int .i64 z)) M n b3 gs b5 g2 ms (up.set i z) :=
  ⟨h.hr.far h.l2.1 _, h.hs.far h.l2.2.1 _, h.hb.far h.l2.2.2 _, h.hu.set i z, h.l1, h.l2, h.l3, by simpa using h.lM⟩
/-- The block of an own row does not lie from lo on below hi. -/
def Aw (v : Value) (lo hi : Nat) : Prop := ∀ k, v.ownBlock = some k → k < lo ∨ hi ≤ k
structure Rm (W : World) (M lo hi : Nat) (a : Option Addr) (cap : Nat) (xs : List Nat) : Prop where
  els : Els 1 rInt W lo hi a (zs xs)
  cap : xs.length ≤ cap
  l1 : M ≤ lo
  l2 : hi ≤ W.heap.size
theorem Rm.below {W W' : World} {M lo hi : Nat} {a : Option Addr} {cap : Nat} {xs : List Nat} (h : Rm W M lo hi a cap xs) (hb : Below W.heap.size W W') : Rm W' M lo hi a cap xs :=
  ⟨h.els.grow good_int hb h.l2, h.cap, h.l1, Nat.le_trans h.l2 hb.size⟩
theorem zs_range (k : Nat) : zs (List.range (k + 1)) = zs (List.range k) ++ [(k : Int)] := by simp [zs, List.range_succ]
theorem sm_grown {lo hi : Nat} {w w' : World} {row : Option Nat} (h : w.grownBy w' row) (hs : hi ≤ w.heap.size) (hr : ∀ k, row = some k → k < lo ∨ hi ≤ k) : Sm lo hi w w' := fun b h1 h2 => h.block b (by omega) (fun e => by rcases hr b e.symm with h3 | h3 <;> omega)
theorem zs_oth (xs : List Nat) (p : Nat) : zs (oth xs p) = (zs xs).take p ++ (zs xs).drop (p + 1) := by simp [oth, zs, List.map_take, List.map_drop]
theorem oth_len {xs : List Nat} {p : Nat} (h : p < xs.length) : (oth xs p).length + 1 = xs.length := by simp [oth]; omega
theorem oth_mem {xs : List Nat} {p k : Nat} (h : k ∈ oth xs p) : k ∈ xs := by
  rcases List.mem_append.1 h with h | h
  · exact List.mem_of_mem_take h
  · exact List.mem_of_mem_drop h
theorem fs_ic {fs : List (List Value)} {xs : List Int} (hl : fs.length = xs.length) (h : ∀ j (h1 : j < fs.length) (h2 : j < xs.length), fs[j] = [Value.int .i64 xs[j]]) : fs = xs.map fun z => [Value.int .i64 z] := by
  refine List.ext_getElem (by simpa using hl) fun j h1 h2 => ?_
  rw [h j h1 (by simpa using h2)]
  simp
theorem flat_ic (xs : List Int) : (xs.map fun z => [Value.int .i64 z]).flatten = ic xs := by
  induction xs with
  | nil => rfl
  | cons x xs ih => simp [ic] at ih ⊢; exact ih

theorem cat_two (a1 a2 : Option Addr) (n1 c1 n2 c2 B vb : Nat) (cs1 cs2 : List Value) (W : World) (K : HasL W vb [.slice a1 n1 c1, .slice a2 n2 c2]) (hB : B ≤ W.heap.size) (h1 : SrcOk 1 W B ⟨a1, n1, c1, cs1⟩) (h2 : SrcOk 1 W B ⟨a2, n2, c2, cs2⟩) (hn : n1 + n2 ≤ 4194304) :
    Calls Try.prog 67 #[.slice (some ⟨vb, 0, none⟩) 2 2] W fun e w' => ∃ v, e = .returned v ∧ w'.ownsRow W.heap.size 3 1 v (n1 + n2) (cs1 ++ cs2) ∧ Below W.heap.size W w' := by
  obtain ⟨k0, k1, _, _, kz⟩ := K.two
  have C := lib_concat vb 2 B [⟨a1, n1, c1, cs1⟩, ⟨a2, n2, c2, cs2⟩] W (fun j hj => by
      rcases (by simp at hj; omega : j = 0 ∨ j = 1) with rfl | rfl
      · exact k0
      · exact k1) kz hB (fun j hj => by
      rcases (by simp at hj; omega : j = 0 ∨ j = 1) with rfl | rfl
      · exact h1
      · exact h2) (by simp) (by simp [sumN]; omega)
  refine C.mono fun e w' ⟨v, he, ho, hb⟩ => ⟨v, he, ?_, hb⟩
  simpa [sumN, flat] using ho

section
variable {P : Program}
/-- 'append(v, z)' as a walk meets it, and where the new row lies. -/
theorem append_intL {ops : Array Oper} {rest : List Oper} {o : Oper} {a : Act} {Q : Exit → Act → World → Prop} (hgd : o.guard = none) (s x : Operand) (t : TypeId)
    (ho : o.op = .call { callee := .builtin .append, args := #[s, x], argTypes := #[t, t] })
    (base : Nat) (e : TypeId) (i : TypeInfo) (ht : P.underlying t = some (.slice e)) (hi : P.info? e = some i) (hz : i.zero = some (.int .i64 0))
    (hsize : i.size = 1) (hby : i.bytes = 8) (wr : World) (v : Value) (l : List Int) (c : Int) (hown : Own wr base e v l) (hs : a.eval s = v) (hbase : base ≤ wr.heap.size)
    (z : Int) (hzc : z = c) (H : Nat) (hH : wr.heap.size = H) (hx : a.eval x = .slice (some ⟨H, 0, none⟩) 1 1) (hlen : l.length ≤ 8796093022208)
    (h : ∀ v' w', Own w' base e v' (l ++ [c]) → wr.grownBy w' v.ownBlock → (∀ k, v'.ownBlock = some k → v.ownBlock = some k ∨ wr.heap.size < k) → wpList P ops Q rest (a.put o.dst v') w') :
    wpList P ops Q (o :: rest) a (wr.alloc (.cells #[.int .i64 z] e)) := by
  subst hzc
  subst hH
  refine wpList_append_lies _ hgd s x t ho base e i (.int .i64 0) 1 8 ht hi hz hsize hby rfl (by decide) v l.length (ic l) hs (hown.alloc _) ⟨wr.heap.size, 0, none⟩ 1 1 (ic [z]) hx rfl ?_ ?_ (by decide) ?_ ?_ ?_ _ rfl ?_
  · intro j u hj
    match j, hj with
    | 0, hj => simp [ic] at hj; subst hj; simp [Addr.add]
    | j + 1, hj => simp [ic] at hj
  · intro u hu; simp [ic] at hu; subst hu; rfl
  · unfold maxLen; omega
  · omega
  · simp; omega
  · intro g cap w' hown' hgrow hat _
    refine h _ w' ?_ ?_ ?_
    · unfold Own
      rw [ic_append]
      simpa using hown'
    · exact ⟨hgrow.os, hgrow.tape, hgrow.output, by have := hgrow.size; simp at this; omega, fun k hk hne => (hgrow.block k (by simp; omega) hne).trans (Below.heap_alloc _ _ _ hk)⟩
    · intro k hk
      have e1 : g = k := by simpa [Value.ownBlock] using hk
      subst e1
      rcases hat with h1 | h1
      · exact .inl h1
      · right
        rw [h1]
        simp
end

def Red (us : List AtomD) (w : World) (e : Ending) (w' : World) : Prop :=
  ∃ av cap g, e = .returned (.tuple #[.slice av (gyo us).out.length cap, .agg #[.slice (some ⟨g, 0, none⟩) us.length us.length]]) ∧ Own w' w.heap.size 3 (.slice av (gyo us).out.length cap) (gyo us).out ∧ At w' g 3 us.length (gyo us).up ∧ w.heap.size ≤ g ∧ Below w.heap.size w w'

set_option maxRecDepth 100000 in
set_option maxHeartbeats 4000000 in
theorem impl_red (a : Option Addr) (cap : Nat) (us : List AtomD) (lo hi : Nat) (w : World) (hn1 : 1 ≤ us.length) (hn4 : us.length ≤ 4) (hsz : ∀ j (h : j < us.length), us[j].2.length ≤ 1048576) (h : Els 2 rAtom w lo hi a us) (hh : hi ≤ w.heap.size) :
    Calls Try.prog 43 #[.slice a us.length cap] w (Red us w) := by
  obtain ⟨i0, hi0, hz0, hz1, hz2⟩ := info_parts IntLaw.info
  have K3 := hid (hasl_new w [.slice none 0 0] 39)
  have B1 := hid ((Below.refl w.heap.size w).alloc (Nat.le_refl _) (.cells #[.slice none 0 0] 39))
  have SE := hid (impl_sets a cap us lo hi _ (by omega) hsz (h.grow good_atom B1.out hh) (Nat.le_trans hh B1.out.size))
  clear h hsz
  go_enter Try.func43, Try.ntmps43
  go_wp2
  go_step3
  go_wp2_with fail
  with_reducible refine SE.out.mono ?_
  rintro e w1 ⟨gs, ms, rfl, hgs, hms, hso, hb1⟩
  have K3b := hid (K3.out.below hb1)
  have HB1 := hid (B1.out.trans (hb1.mono B1.out.size))
  have KV := hid (hasl_new w1 [.int .i64 (-1)] 3)
  have BV := hid ((Below.refl w1.heap.size w1).alloc (Nat.le_refl _) (.cells #[.int .i64 (-1)] 3))
  obtain ⟨kv0, _, kvz⟩ := KV.out.one
  have RE := hid (lib_repeat w1.heap.size us.length _ hn4 hn1 kv0 kvz)
  clear kv0 kvz
  go_wp2_with fail
  with_reducible refine RE.out.mono ?_
  rintro e w3 ⟨g2, rfl, hg2, hat, hb3⟩
  simp only [World.size_alloc] at hg2 hgs
  have hz2w := hb3.size
  simp only [World.size_alloc] at hz2w
  have hz1w := hms.1
  have hzt := hat.lt
  have HB3 := hid ((HB1.out.alloc HB1.out.size (.cells #[.int .i64 (-1)] 3)).trans (hb3.mono (Nat.le_trans HB1.out.size BV.out.size)))
  have hz0w := HB1.out.size
  have BS := hid (show Bs (w3.alloc (.cells #[.slice (some ⟨g2, 0, none⟩) us.length us.length] 39)) (w3.heap.size + 1) us.length w.heap.size gs w3.heap.size g2 ms (List.replicate us.length (-1)) from
    ⟨(((K3b.out.alloc _).below hb3).alloc _), (((hms.alloc _).below hb3).alloc _), hasl_new w3 [.slice (some ⟨g2, 0, none⟩) us.length us.length] 39, hat.alloc _, ⟨by omega, by omega, by omega, by omega⟩, ⟨by omega, by omega, by omega⟩, ⟨by omega, by omega⟩, by simp⟩)
  have HB0 := hid (HB3.out.alloc HB3.out.size (.cells #[.slice (some ⟨g2, 0, none⟩) us.length us.length] 39))
  obtain ⟨k50, k51, k52⟩ := (hasl_new w3 [.slice none 0 0] 39).one
  have HSO := hid hso
  have hgw : w.heap.size ≤ g2 := by omega
  clear hb1 hb3 hat hms hso K3 K3b KV BV RE SE B1 HB1 HB3
  obtain ⟨M, hM⟩ : ∃ z, w3.heap.size + 1 = z := ⟨_, rfl⟩
  rw [hM] at BS
  have hMle := BS.out.lM
  go_wp2
  clear k50 k51 k52
  go_loopw [7, 8, 23] (fun v _ i wr => ∃ k : Nat, k ≤ us.length ∧ i = .int .i64 k ∧ Own wr M 3 v (zs (List.range k)) ∧ Hid (Bs wr M us.length w.heap.size gs w3.heap.size g2 ms (List.replicate us.length (-1))) ∧ Hid (Below w.heap.size w wr)) (fun _ _ i _ => us.length - (intOf i).toNat)
  case atStart => exact ⟨0, Nat.zero_le _, rfl, Own.nil _ _ _, BS, HB0⟩
  case round =>
    obtain ⟨k, hk, rfl, hown, hbs, hb⟩ := hrel
    clear hMle
    by_cases hlt : k < us.length
    · have hlt' : (k : Int) < (us.length : Int) := by omega
      have hsz2 := hbs.out.lM
      have hzl : (zs (List.range k)).length ≤ 8796093022208 := by rw [zs_len, List.length_range]; omega
      go_wp2_with (at_builtin; refine append_int rfl _ _ 23 rfl M 3 i0 Try.underlying23 hi0 hz0 hz1 hz2 wr wr _ (zs (List.range k)) (k : Int) hown (by rfl) (Below.refl _ _) hsz2 _ rfl (by rfl) hzl ?_)
      intro v1 w4 hown1 hbel1 hsz4 hgr
      rw [← zs_range] at hown1
      have HS := hid (hbs.out.under hbel1)
      have HB := hid (hb.out.trans (hbel1.mono (by omega)))
      clear hown hbs hb hgr hbel1
      go_wp2
      go_roundw
      case rel => exact ⟨k + 1, by omega, by go_num, hown1, HS, HB⟩
      case measure => simp [intOf]; omega
    · have e : k = us.length := by omega
      subst e
      have hlM := hbs.out.lM
      have e1 : (zs (List.range us.length)).length = us.length := by rw [zs_len, List.length_range]
      obtain ⟨ra, rc, hv, hrc, _, hrd⟩ := hown.form
      rw [e1] at hv hrc
      subst hv
      have HRM := hid (show Rm wr M M wr.heap.size ra rc (List.range us.length) from ⟨of_own hown (Nat.le_refl _), by rw [List.length_range]; exact hrc, Nat.le_refl _, Nat.le_refl _⟩)
      have hwM : w.heap.size < M := hbs.out.l1.1
      have hsz4 : ∀ j (h : j < us.length), us.length ≤ 4 := fun _ _ => hn4
      clear hown hrd e1 hrc hsz4
      go_wp2
      go_step3
      go_wp2
      go_loopg [6, 7, 9, 10, 11, 12, 13] us.length (fun g s6 s7 _ _ _ _ _ wr => ∃ (v6 : Value) (S : St) (xs : List Nat) (ra : Option Addr) (rc l1 h1 : Nat), v6 = s6 ∧ Hid (S.left.count true = g) ∧ s7 = .slice ra xs.length rc ∧ Hid (rem S.left = xs) ∧ Hid (Inv us S) ∧ Hid (Own wr M 3 s6 S.out) ∧ Hid (Aw s6 l1 h1) ∧ Hid (Rm wr M l1 h1 ra rc xs) ∧ Hid (Bs wr M us.length w.heap.size gs w3.heap.size g2 ms S.up) ∧ Hid (Below w.heap.size w wr))
      case atStart => exact ⟨.slice none 0 0, S0 us.length, List.range us.length, ra, rc, M, wr.heap.size, rfl, hid (by simp [S0]), by rw [List.length_range], hid (rem_all _), hid (inv_zero us), hid (Own.nil _ _ _), hid (fun k hk => by simp [Value.ownBlock] at hk), HRM, hbs, hb⟩
      case round =>
        obtain ⟨v6, S, xs, ra, rc, l1, h1, rfl, hgk, rfl, hxs, hinv, hown, haw, hrm, hbs, hb⟩ := hrel
        obtain ⟨wo, rfl⟩ : ∃ wo : World, wo = wr := ⟨_, rfl⟩
        obtain ⟨G, rfl⟩ : ∃ G : Nat, G = gk := ⟨_, rfl⟩
        have hll := hinv.out.ll
        have hxl : xs.length ≤ 4 := by
          have h1 := List.length_filter_le (lv S.left) (List.range S.left.length)
          have h2 : (rem S.left).length ≤ S.left.length := by rw [List.length_range] at h1; exact h1
          rw [hxs.out, hll] at h2
          omega
        have HLL := hid hll
        clear hll
        go_wp2
        go_loopg [6, 7, 9, 10, 11, 12, 13, 33] xs.length (fun q t6 t7 _ _ _ _ _ i wy => ∃ p : Nat, p + q = xs.length ∧ i = .int .i64 p ∧ v6 = t6 ∧ t7 = .slice ra xs.length rc ∧ Hid (∀ j (h : j < xs.length), j < p → earK us S.left xs[j] = none) ∧ Hid (Below wo.heap.size wo wy))
        case atStart => exact ⟨0, by omega, rfl, rfl, rfl, hid (fun j _ h => by omega), hid (Below.refl _ _)⟩
        case round =>
          obtain ⟨p, hpq, rfl, rfl, rfl, hno, hbw⟩ := hrel
          obtain ⟨wy, rfl⟩ : ∃ wy : World, wy = wr := ⟨_, rfl⟩
          have HOy := hid (hown.out.below' hbw.out)
          have HBy := hid (hbs.out.below hbw.out)
          have HRy := hid (hrm.out.below hbw.out)
          have HWy := hid (hb.out.trans (hbw.out.mono hb.out.size))
          have HBWo := hid hbw.out
          cases gk with
          | zero =>
            have hlt : ¬ (p : Int) < (xs.length : Int) := by omega
            have HF := hid (show gyo us = S from hinv.out.done (stp_end HLL.out (fun j hj => by
              have hj' := hj
              simp only [hxs.out] at hj' ⊢
              exact hno.out j hj' (by omega))))
            obtain ⟨av, capv, hv, hcv, _, _⟩ := HOy.out.form
            subst hv
            obtain ⟨b50, b51, b52⟩ := HBy.out.hb.one
            obtain ⟨b30, b31, b32⟩ := HBy.out.hr.one
            have hwM' := hwM
            clear hno hbw hown haw hrm hbs hb hinv hcv hpq
            go_wp2_with fail
            go_upto_region 19 with fail
            go_region
            all_goals
              go_wp2
              have HS := hid ((HBy.out.hr.put 0 (.slice (some ⟨g2, 0, none⟩) us.length us.length)).drew)
              have HR := HS.out.one.1
              rw [Exit.noGoto_ret]
              refine bodyPost_ret (v := .tuple #[.slice av S.out.length capv, .agg #[.slice (some ⟨g2, 0, none⟩) us.length us.length]]) (by simp [results, Try.results43, go_sem, HR]) rfl ⟨av, capv, g2, by rw [HF.out], ?_, ?_, hgw, ?_⟩
              · rw [HF.out]
                exact (own_far HOy.out (p := ⟨w.heap.size, 0, none⟩) hwM _).mono (Nat.le_of_lt hwM)
              · rw [HF.out]
                exact HBy.out.hu.far (p := ⟨w.heap.size, 0, none⟩) (by simp; omega) _
              · exact (HWy.out.setCell (p := ⟨w.heap.size, 0, none⟩) (Nat.le_refl _) _).drew
          | succ q =>
            have hlt : (p : Int) < (xs.length : Int) := by omega
            have hpl : p < xs.length := by omega
            have h0' : (0 : Int) ≤ (p : Int) := by omega
            have hpr : p < (rem S.left).length := by rw [hxs.out]; exact hpl
            have hxe : (rem S.left)[p] = xs[p] := by simp only [hxs.out]
            have hxm := rem_mem.1 (List.getElem_mem hpr)
            rw [hxe, HLL.out] at hxm
            have hall : ∀ k ∈ xs, k < us.length := fun k hk => by
              have := (rem_mem.1 (by rw [hxs.out]; exact hk : k ∈ rem S.left)).1
              rw [HLL.out] at this
              exact this
            have hpar : par us xs[p] (oth xs p) = earK us S.left xs[p] := by
              have := par_is HLL.out hpr
              simp only [hxs.out] at this
              exact this
            have hrset : rem (S.left.set xs[p] false) = oth xs p := by
              have := rem_set hpr
              simp only [hxs.out] at this
              exact this
            have hstp : ∀ k, earK us S.left xs[p] = some k → stp us S = some ⟨S.out ++ [(xs[p] : Int)], S.up.set xs[p] (k : Int), S.left.set xs[p] false⟩ := fun k hk => by
              have := stp_at HLL.out hpr (k := k) (fun j hj hjp => by
                have hj' := hj
                simp only [hxs.out] at hj' ⊢
                exact hno.out j hj' hjp) (by simp only [hxs.out]; exact hk)
              simp only [hxs.out] at this
              exact this
            have hzl := zs_len xs
            obtain ⟨b, off, he, hbB, hc⟩ := rd_of HRy.out.els (by omega)
            subst he
            have c0 := hc p (by omega)
            rw [zs_at xs p hpl] at c0
            have hcap := HRy.out.cap
            obtain ⟨fs, qd, cd, hfl, hff, hfr, SU, SF, S1, S2⟩ := parts_k (P := Try.prog) (by decide) HRy.out.els (fun cs y hy => by
              intro u hu
              have hy' : cs = [.int .i64 y] := hy
              subst hy'
              simp at hu
              subst hu
              rfl) (by omega) Try.underlying23 hi0 hz1 rc p (p + 1) (by omega) (by omega) (by omega)
            rw [hzl] at SU SF S2
            have hfs := fs_ic hfl (fun j h1 h2 => hfr j h1 h2)
            obtain ⟨p1, hp1'⟩ : ∃ z, p + 1 = z := ⟨_, rfl⟩
            have e1 : IntKind.i64.wrap ((p : Int) + 1) = (p1 : Int) := by rw [show (p : Int) + 1 = (p1 : Int) by omega]; exact Num.wrap_small p1 (by omega)
            have e3 : IntKind.i64.wrap (p1 : Int) = (p1 : Int) := Num.wrap_small p1 (by omega)
            have HP1 := hid hp1'
            rw [hp1'] at SF S2
            obtain ⟨m2, hm2⟩ : ∃ z, xs.length - p1 = z := ⟨_, rfl⟩
            rw [hm2] at SF S2
            have HC := hid (show (fs.take p).flatten ++ (fs.drop p1).flatten = ic (zs (oth xs p)) by
              rw [zs_oth, ic_append, hfs, ← List.map_take, ← List.map_drop, flat_ic, flat_ic, hp1'])
            obtain ⟨cs1, hcs1⟩ : ∃ z, (fs.take p).flatten = z := ⟨_, rfl⟩
            obtain ⟨cs2, hcs2⟩ : ∃ z, (fs.drop p1).flatten = z := ⟨_, rfl⟩
            rw [hcs1] at S1 HC
            rw [hcs2] at S2 HC
            have HS1 := hid S1
            have HS2 := hid S2
            have hol := oth_len hpl
            have hlen : p + m2 = (oth xs p).length := by omega
            have HLE := hid hlen
            have HOL := hid hol
            have hiw := HRy.out.l2
            have hkm : p + m2 ≤ 4194304 := by omega
            have hk1 : (p : Int) ≤ (xs.length : Int) := by omega
            have hk2' : (p1 : Int) ≤ (xs.length : Int) := by omega
            have hk3' : (0 : Int) ≤ (p1 : Int) := by omega
            have hkc : (p : Int) ≤ (rc : Int) := by omega
            have HPAR := hid hpar
            have HRS := hid hrset
            have HST := hid hstp
            have HALL := hid hall
            have HXM := hid hxm
            obtain ⟨x, hx⟩ : ∃ z, xs[p] = z := ⟨_, rfl⟩
            rw [hx] at c0 HPAR HRS HST HXM
            have HX := hid hx
            have hk2 := kp_refl wy
            clear hc hfs hfr hff hfl S1 S2 hcs1 hcs2 hm2 hp1' hlen hol hpar hrset hstp hall hxm hxe hpr hzl hcap hx hbw hb hbs hrm hown
            go_upto_region 12 with fail
            clear c0
            go_cut [11] (fun s wx => ∃ sv : Value, sv = s ∧ wx.ownsRow wy.heap.size 3 1 sv (p + m2) (cs1 ++ cs2) ∧ Kp wy 0 wx)
            case first =>
              go_region_held3 (fun w' => Kp wy 0 w')
                (first
                  | (go_split_ands
                     repeat' apply And.intro
                     all_goals (first | (with_reducible assumption) | (with_reducible exact Kp.drew (by assumption)) | (with_reducible exact Kp.call (by assumption) hb1) | (with_reducible exact Kp.alloc (by assumption) _) | (with_reducible exact Kp.alloc_drew (by assumption) _))))
                (first
                  | (go_split_ands; go_at_call 67; (with_reducible refine (cat_two (some ⟨b, off, none⟩) qd p rc m2 cd h1 _ cs1 cs2 _ (by first | (with_reducible exact hasl_new _ _ _) | (with_reducible exact (hasl_new _ _ _).drew)) (kp_le (by with_reducible assumption) hiw) (HS1.out.below ((Kp.bel (n := 0) (w := wy) (by with_reducible assumption)).mono hiw)) (HS2.out.below ((Kp.bel (n := 0) (w := wy) (by with_reducible assumption)).mono hiw)) hkm).mono ?_); rintro e wC ⟨vC, rfl, hown, hb1⟩; have HO := hid (row_le hown (Kp.bel (n := 0) (w := wy) (by with_reducible assumption)).size); clear hown) | fail)
              all_goals
                go_wp2_with fail
                go_meet
                go_split_ands
                exact ⟨_, rfl, HO.out, by with_reducible assumption⟩
            case rest =>
            obtain ⟨sv, rfl, ho, hkp⟩ := hcut
            obtain ⟨w5, rfl⟩ : ∃ wo : World, wo = wc := ⟨_, rfl⟩
            have hb5 := hkp.bel
            have HB5 := hid (HWy.out.trans (hb5.mono HWy.out.size))
            have HS5 := hid (HBy.out.below hb5)
            have HO5 := hid (HOy.out.below' hb5)
            rw [HC.out, HLE.out] at ho
            have hown5 : Own w5 wy.heap.size 3 sv (zs (oth xs p)) := by
              unfold Own
              rw [zs_len]
              exact ho
            obtain ⟨oa, oc, hv, hoc, _, hrd⟩ := hown5.form
            rw [zs_len] at hv hoc
            subst hv
            have HE5 := hid (of_own hown5 (Nat.le_refl _))
            have hz5 := hb5.size
            have hox : ∀ k ∈ oth xs p, k < us.length := fun k hk => HALL.out k (oth_mem hk)
            have hoxl : (oth xs p).length ≤ 1048576 := by have := HOL.out; omega
            have FP := hid (impl_first us ms gs x (oth xs p) oa oc w5.heap.size w5 (by omega) HXM.out.1 hoxl hox HSO.out HS5.out.hs hrd)
            rw [HPAR.out] at FP
            have hyM := HBy.out.lM
            have HOC := hid hoc
            cases hr : earK us S.left x with
            | none =>
              have FP2 := hid (show Calls Try.prog 68 #[.slice (some ⟨gs, 0, none⟩) us.length us.length, .int .i64 x, .slice oa (oth xs p).length oc] w5 (fun e w' => e = .returned (.tuple #[.int .i64 (-1), .bool false]) ∧ w5 = w') by have := FP.out; rw [hr] at this; exact this)
              have HN := hid (show ∀ j (h : j < xs.length), j < p + 1 → earK us S.left xs[j] = none from fun j hj hjp => by
                by_cases e : j = p
                · subst e; rw [HX.out]; exact hr
                · exact hno.out j hj (by omega))
              have HBW := hid (show Below wo.heap.size wo w5 from by
                have h3 : Below wo.heap.size wo wy := HBWo.out
                exact h3.trans (hb5.mono h3.size))
              clear hb5 hkp hk2 ho hown5 hrd hox hoxl FP hr hno SU SF
              go_wp2_with fail
              with_reducible refine FP2.out.mono ?_
              rintro e w6 ⟨rfl, rfl⟩
              go_wp2
              go_roundg q
              case measure => omega
              case rel => exact ⟨p1, by have := HP1.out; omega, rfl, rfl, rfl, hid (by rw [← HP1.out]; exact HN.out), HBW⟩
            | some k =>
              have FP2 := hid (show Calls Try.prog 68 #[.slice (some ⟨gs, 0, none⟩) us.length us.length, .int .i64 x, .slice oa (oth xs p).length oc] w5 (fun e w' => e = .returned (.tuple #[.int .i64 (k : Int), .bool true]) ∧ w5 = w') by have := FP.out; rw [hr] at this; exact this)
              have HSt := hid (HST.out k hr)
              obtain ⟨hinv2, hcnt⟩ := hinv.out.step HXM.out.1 HXM.out.2 HSt.out
              have HI2 := hid hinv2
              have HCN := hid hcnt
              obtain ⟨b50, b51, b52⟩ := HS5.out.hb.one
              have hul := hinv.out.lu
              have hx1 := HXM.out.1
              have hx0' : (0 : Int) ≤ (x : Int) := by omega
              have hx1' : (x : Int) < (us.length : Int) := by omega
              obtain ⟨uo, u1⟩ : ∃ u, w5.cell? ⟨g2, x, none⟩ = some u := ⟨_, HS5.out.hu.cell x (by omega)⟩
              have u2 := HS5.out.hu.free x
              have HPut := hid (HS5.out.put x (k : Int))
              have hg2M := HS5.out.l1.2.2.2
              have HOput := hid (own_far HO5.out (p := ⟨g2, x, none⟩) hg2M (.int .i64 (k : Int)))
              have HEput := hid (HE5.out.keep good_int (sm_set (g := g2) (o := x) (.int .i64 (k : Int)) (.inl (by omega))))
              have HBput := hid (HB5.out.setCell (p := ⟨g2, x, none⟩) hgw (.int .i64 (k : Int)))
              have hsol : S.out.length ≤ 8796093022208 := by have := hinv.out.cnt; omega
              have HLt := hid HOy.out.lt
              have hzs : (w5.setCell ⟨g2, x, none⟩ (.int .i64 (k : Int))).heap.size = w5.heap.size := by simp
              have hM6 : M ≤ (w5.setCell ⟨g2, x, none⟩ (.int .i64 (k : Int))).heap.size := by rw [hzs]; omega
              have HZ := hid hzs
              clear hb5 hkp hk2 ho hown5 hrd hox hoxl FP hr hno SU SF hinv2 hcnt hul hzs HST HPAR HALL
              go_wp2_with fail
              with_reducible refine FP2.out.mono ?_
              rintro e w6 ⟨rfl, rfl⟩
              go_wp2_with (at_builtin; refine append_intL rfl _ _ 23 rfl M 3 i0 Try.underlying23 hi0 hz0 hz1 hz2 (w5.setCell ⟨g2, x, none⟩ (.int .i64 (k : Int))) v6 S.out (x : Int) HOput.out (by rfl) hM6 _ rfl w5.heap.size HZ.out (by rfl) hsol ?_)
              intro v1 w7 hown1 hgr haw1
              have hgs := hgr.size
              (try rw [HZ.out] at haw1)
              (try rw [HZ.out] at hgs)
              have HA := hid (show Aw v1 wy.heap.size w5.heap.size from fun k' hk' => by
                rcases haw1 k' hk' with h3 | h3
                · exact .inl (HLt.out k' h3).2
                · exact .inr (Nat.le_of_lt h3))
              have hbM : Below M (w5.setCell ⟨g2, x, none⟩ (.int .i64 (k : Int))) w7 := (Below.refl _ _).grown hgr hM6 (fun k' hk' => (HLt.out k' hk').1)
              have HRn := hid (show Rm w7 M wy.heap.size w5.heap.size oa oc (oth xs p) from ⟨HEput.out.keep good_int (sm_grown hgr (by rw [HZ.out]; exact Nat.le_refl _) (fun k' hk' => .inl (HLt.out k' hk').2)), HOC.out, hyM, hgs⟩)
              have HS7 := hid (HPut.out.under hbM)
              have HB7 := hid (HBput.out.trans (hbM.mono (Nat.le_of_lt hwM)))
              have HO7 := hid hown1
              clear haw1 hbM hgr hown1 b50 b51 b52 u1 u2
              go_wp2
              go_roundg ((S.left.set x false).count true)
              case measure => have := HCN.out; have := hgk.out; omega
              case rel => exact ⟨v1, ⟨S.out ++ [(x : Int)], S.up.set x (k : Int), S.left.set x false⟩, oth xs p, oa, oc, wy.heap.size, w5.heap.size, rfl, hid rfl, rfl, HRS, HI2, HO7, HA, HRn, HS7, HB7⟩
end Go.Proofs.Ytaeeogighoobdaa.GyoR
