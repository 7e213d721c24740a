/- Grids that are made, stored into and marked (no program in sight). -/
import Derived.Test.YtliomgoakiidfaaGrid
namespace Go.Proofs.Ytliomgoakiidfaa.GridMore
open Go.RowKit
open Go.Proofs.Ytliomgoakiidfaa.IntRow Go.Proofs.Ytliomgoakiidfaa.Grid
set_option linter.unusedVariables false

/-- Only blocks from lo to hi have been turned. -/
structure Turn (lo hi : Nat) (w w' : World) : Prop where
  os : w'.os = w.os
  tape : w'.tape = w.tape
  output : w'.output = w.output
  size : w.heap.size ≤ w'.heap.size
  block : ∀ k, k < w.heap.size → (k < lo ∨ hi ≤ k) → w'.heap[k]? = w.heap[k]?
theorem Turn.refl (lo hi : Nat) (w : World) : Turn lo hi w w := ⟨rfl, rfl, rfl, Nat.le_refl _, fun _ _ _ => rfl⟩
theorem Turn.trans {lo hi : Nat} {a b c : World} (h : Turn lo hi a b) (k : Turn lo hi b c) : Turn lo hi a c :=
  ⟨k.os.trans h.os, k.tape.trans h.tape, k.output.trans h.output, Nat.le_trans h.size k.size, fun i hi hr => (k.block i (Nat.lt_of_lt_of_le hi h.size) hr).trans (h.block i hi hr)⟩
theorem Turn.below {lo hi : Nat} {w w' : World} (h : Turn lo hi w w') (hlo : lo ≤ w.heap.size) : Below lo w w' :=
  ⟨h.os, h.tape, h.output, h.size, fun k hk => h.block k (by omega) (.inl hk)⟩
theorem Turn.of_below {lo hi B : Nat} {w w' : World} (h : Below B w w') (hB : w.heap.size ≤ B) : Turn lo hi w w' := ⟨h.os, h.tape, h.output, h.size, fun k hk _ => h.block k (by omega)⟩
theorem Turn.of_grown {lo hi : Nat} {w w' : World} {row : Option Nat} (h : w.grownBy w' row) (hr : ∀ k, row = some k → lo ≤ k ∧ k < hi) : Turn lo hi w w' :=
  ⟨h.os, h.tape, h.output, h.size, fun k hk hkk => h.block k hk (fun e => by have := hr k e.symm; omega)⟩
/-- All blocks of a value lie below hi. -/
def Under (hi : Nat) (v : Value) : Prop := ∀ k, v.ownBlock = some k → k < hi
def GUnder (hi : Nat) (v : Value) (vs : List Value) : Prop := Under hi v ∧ ∀ (j : Nat) (u : Value), vs[j]? = some u → Under hi u
theorem own_turned {lo hi lo1 : Nat} {w w' : World} {e : TypeId} {v : Value} {xs : List Int} (h : Own w lo1 e v xs) (t : Turn lo hi w w') (hv : hi ≤ lo1 ∨ Under lo v) : Own w' lo1 e v xs := by
  refine ⟨h.1, ?_⟩
  rcases h.2 with hn | ⟨g, cap, cur, rfl, hg, hh, r⟩
  · exact .inl hn
  · have hl := (Own.lt h g rfl).2
    refine .inr ⟨g, cap, cur, rfl, hg, (t.block g hl ?_).trans hh, r⟩
    rcases hv with hv | hv
    · exact .inr (by omega)
    · exact .inl (hv g rfl)
theorem gown_turned {lo hi lo1 : Nat} {w w' : World} {eR eI : TypeId} {v : Value} {vs : List Value} {xss : List (List Int)} (h : GOwn w lo1 eR eI v vs xss) (t : Turn lo hi w w') (hv : hi ≤ lo1 ∨ GUnder lo v vs) : GOwn w' lo1 eR eI v vs xss := by
  refine ⟨h.len, ⟨h.row.1, ?_⟩, fun j hj u hu => own_turned (h.own j hj u hu) t (hv.imp id fun x => x.2 j u hu), h.apart⟩
  rcases h.row.2 with hn | ⟨g, cap, cur, rfl, hg, hh, r⟩
  · exact .inl hn
  · have hl := (h.lt g rfl).2
    refine .inr ⟨g, cap, cur, rfl, hg, (t.block g hl ?_).trans hh, r⟩
    rcases hv with hv | hv
    · exact .inr (by omega)
    · exact .inl (hv.1 g rfl)
theorem gown_under {lo : Nat} {w : World} {eR eI : TypeId} {v : Value} {vs : List Value} {xss : List (List Int)} (h : GOwn w lo eR eI v vs xss) : GUnder w.heap.size v vs :=
  ⟨fun k hk => (h.lt k hk).2, fun j u hu k hk => (h.lt_row hu k hk).2⟩
theorem GUnder.mono {lo hi : Nat} {v : Value} {vs : List Value} (h : GUnder lo v vs) (hl : lo ≤ hi) : GUnder hi v vs := ⟨fun k hk => Nat.lt_of_lt_of_le (h.1 k hk) hl, fun j u hu k hk => Nat.lt_of_lt_of_le (h.2 j u hu k hk) hl⟩
theorem one_turned {lo hi b : Nat} {w w' : World} {x : Value} (h : One w b x) (t : Turn lo hi w w') (hb : b < lo ∨ hi ≤ b) : One w' b x :=
  ⟨(World.cell?_of_block (w := w) (a := ⟨b, 0, none⟩) (t.block b h.2.2 hb)).trans h.1, (World.frozen?_of_block (w := w) (a := ⟨b, 0, none⟩) (t.block b h.2.2 hb)).trans h.2.1, Nat.lt_of_lt_of_le h.2.2 t.size⟩

/-- A header is stored: a new row in place j. -/
theorem gown_store {w : World} {lo g cap n : Nat} {eR eI : TypeId} {u : Value} {vs : List Value} {xss : List (List Int)} {ys : List Int} (h : GOwn w lo eR eI (.slice (some ⟨g, 0, none⟩) n cap) vs xss) (hn : n = xss.length) (hne : eR ≠ eI) (j : Nat) (hj : j < xss.length) (ho : Own w lo eI u ys)
    (hap : ∀ (i : Nat) (u' : Value) (k : Nat), i ≠ j → vs[i]? = some u' → u.ownBlock = some k → u'.ownBlock ≠ some k) :
    GOwn (w.setCell ⟨g, j, none⟩ u) lo eR eI (.slice (some ⟨g, 0, none⟩) n cap) (vs.set j u) (xss.set j ys) := by
  subst hn
  have hst := World.ownsRow.stored h.row j u
  have hu : ∀ k, u.ownBlock = some k → (some g : Option Nat) ≠ some k := fun k hk hv => by
    obtain ⟨c1, h1⟩ := own_block h.row (k := g) rfl
    obtain ⟨c2, h2⟩ := own_block ho hk
    injection hv with hv
    subst hv
    rw [h1] at h2
    injection h2 with h2
    injection h2 with _ h3
    exact hne h3
  refine ⟨by rw [List.length_set, List.length_set, h.len], by rw [List.length_set]; exact hst.1, ?_, ?_⟩
  · intro i hi u' hu'
    rw [List.length_set] at hi
    by_cases e : i = j
    · subst e
      rw [List.getElem?_set_self (by rw [h.len]; exact hj)] at hu'
      injection hu' with hu'
      subst hu'
      simpa using ho.grown hst.2 hu
    · rw [List.getElem?_set_ne (fun x => e x.symm)] at hu'
      rw [List.getElem_set_ne (fun x => e x.symm)]
      exact (h.own i hi u' hu').grown hst.2 (fun k hk => h.far hne hu' hk)
  · intro i k a b m hik ha hb hm
    by_cases e1 : i = j
    · subst e1
      rw [List.getElem?_set_self (by rw [h.len]; exact hj)] at ha
      injection ha with ha
      subst ha
      rw [List.getElem?_set_ne hik] at hb
      exact hap k b m (fun x => hik x.symm) hb hm
    · rw [List.getElem?_set_ne (fun x => e1 x.symm)] at ha
      by_cases e2 : k = j
      · subst e2
        rw [List.getElem?_set_self (by rw [h.len]; exact hj)] at hb
        injection hb with hb
        subst hb
        exact fun hk => hap i a m e1 ha hk hm
      · rw [List.getElem?_set_ne (fun x => e2 x.symm)] at hb
        exact h.apart i k a b m hik ha hb hm

section
variable {P : Program}
/-- 'make([][]int, n)': a new block of nil headers. -/
theorem make_rows (w : World) (t e : TypeId) (i : TypeInfo) (ht : P.underlying t = some (.slice e)) (hi : P.info? e = some i) (hz : i.zero = some (.slice none 0 0)) (hsize : i.size = 1) (hby : i.bytes = 24)
    (n : Nat) (hn : n ≤ 5000000000000) :
    (Instr.makeSlice t (.int .i64 (n : Int)) (.int .i64 (n : Int))).run P w = .ok (.slice (some ⟨w.heap.size, 0, none⟩) n n) (w.alloc (.cells (Array.replicate n (.slice none 0 0)) e)) := by
  rw [run_make w t e i (.slice none 0 0) ht hi hz .i64 .i64 n n (by omega) (by omega) (by rw [hby]; omega) (by omega), hsize, Nat.mul_one]
  simp only [Int.toNat_natCast]
  congr 3
  simp only [madeCells]
  apply Array.ext
  · simp
  · intro j h1 h2
    simp [Value.cells]
    simp [Nat.mod_one]
theorem rows_made (w : World) (eR eI : TypeId) (n : Nat) (hn : n ≤ 5000000000000) : GOwn (w.alloc (.cells (Array.replicate n (.slice none 0 0)) eR)) w.heap.size eR eI (.slice (some ⟨w.heap.size, 0, none⟩) n n) (List.replicate n (.slice none 0 0)) (List.replicate n []) := by
  have h := World.ownsRow_lit (size := 1) (e := eR) (base := w.heap.size) w (Array.replicate n (.slice none 0 0)) n (Nat.le_refl _) (by unfold maxLen; omega) (by simp)
  have hnil : ∀ (j : Nat) (u : Value), (List.replicate n (Value.slice none 0 0))[j]? = some u → u = .slice none 0 0 := fun j u hu => List.eq_of_mem_replicate (List.mem_of_getElem? hu)
  refine ⟨by simp, by simpa using h, fun j hj u hu => ?_, fun i j u u' k _ hu _ hk => ?_⟩
  · obtain rfl := hnil j u hu
    simpa using Own.nil _ _ _
  · obtain rfl := hnil i u hu
    simp [Value.ownBlock] at hk
end
/-- A grid of which the first k rows are filled in. -/
def filledS (xss : List (List Int)) (k : Nat) : List (List Int) := xss.take k ++ List.replicate (xss.length - k) []
theorem filledS_zero (xss : List (List Int)) : filledS xss 0 = List.replicate xss.length [] := by simp [filledS]
theorem filledS_all (xss : List (List Int)) : filledS xss xss.length = xss := by simp [filledS]
theorem filledS_length (xss : List (List Int)) (k : Nat) (h : k ≤ xss.length) : (filledS xss k).length = xss.length := by simp [filledS]; omega
theorem filledS_step (xss : List (List Int)) (k : Nat) (h : k < xss.length) : (filledS xss k).set k xss[k] = filledS xss (k + 1) := by
  unfold filledS
  rw [List.set_append_right _ _ (by simp; omega), show k - (xss.take k).length = 0 by simp; omega, show xss.length - k = (xss.length - (k + 1)) + 1 by omega, List.replicate_succ, List.set_cons_zero, List.take_succ_eq_append_getElem h, List.append_assoc]
  rfl
end Go.Proofs.Ytliomgoakiidfaa.GridMore
