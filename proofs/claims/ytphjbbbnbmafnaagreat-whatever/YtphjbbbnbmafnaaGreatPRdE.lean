/-
  The program's reading of edges (reader.edges): where they are from, bit by bit, till the nodes are through or there are more than were told; then labels, and where they go to. Only the reader's own block is written.
-/
import Derived.Test.YtphjbbbnbmafnaaGreatPRd
import Derived.Test.YtphjbbbnbmafnaaGreatPText
import Derived.Deep.AppendLies
namespace Go.Proofs.YtphjbbbnbmafnaaGreat.G
open Go.RowKit

/-- where edges are from, k bits on, and the node at hand -/
def rdf (t : List Bool) (a : Nat) : Nat → List Nat × Nat
  | 0 => ([], 0)
  | k + 1 => if t.getD (a + k) false then ((rdf t a k).1 ++ [(rdf t a k).2], (rdf t a k).2) else ((rdf t a k).1, (rdf t a k).2 + 1)
theorem rdf_sum (t : List Bool) (a k : Nat) : (rdf t a k).1.length + (rdf t a k).2 = k := by
  induction k with
  | zero => rfl
  | succ k ih => unfold rdf; split <;> simp <;> omega
/-- the edges, of which so many have their label and so many their end -/
def lst (fs : List Nat) (lb tb : Nat → Nat) (i j : Nat) : List E3 := (List.range fs.length).map fun x => (((fs.getD x 0 : Nat) : Int), (((if x < i then lb x else 0 : Nat)) : Int), ((if x < j then tb x else 0 : Nat) : Int))
theorem lst_len (fs : List Nat) (lb tb : Nat → Nat) (i j : Nat) : (lst fs lb tb i j).length = fs.length := by simp [lst]
theorem lst_at (fs : List Nat) (lb tb : Nat → Nat) (i j x : Nat) (h : x < fs.length) : (lst fs lb tb i j)[x]? = some (((fs.getD x 0 : Nat) : Int), (((if x < i then lb x else 0 : Nat)) : Int), ((if x < j then tb x else 0 : Nat) : Int)) := by
  unfold lst; rw [List.getElem?_map, List.getElem?_range h]; rfl
theorem lst_new (fs : List Nat) (lb tb : Nat → Nat) (u : Nat) : lst (fs ++ [u]) lb tb 0 0 = lst fs lb tb 0 0 ++ [((u : Int), 0, 0)] := by
  unfold lst
  rw [List.length_append, List.length_singleton, List.range_succ, List.map_append]
  congr 1
  · refine List.map_congr_left (fun x hx => ?_)
    have hx' : x < fs.length := by simpa using hx
    have e : (fs ++ [u]).getD x 0 = fs.getD x 0 := by
      simp only [List.getD_eq_getElem?_getD]
      rw [List.getElem?_append_left hx']
    rw [e]
  · simp
theorem set_same {α : Type} (l : List α) (i : Nat) (v : α) (h : l[i]? = some v) : l.set i v = l := by
  apply List.ext_getElem?
  intro j
  rw [List.getElem?_set]
  split
  · rename_i e; subst e
    have := (List.getElem?_eq_some_iff.1 h).1
    rw [if_pos this, h]
  · rfl
theorem flat_lab {l : List E3} {k : Nat} {e : E3} (h : l[k]? = some e) (y : Int) : (flat l).set (k * 3 + 1) (.int .i64 y) = flat (l.set k (e.1, y, e.2.2)) := by
  obtain ⟨h0, _, h2⟩ := flat_three h
  rw [flat_set l k _ (len_of h), set_same _ _ _ h0]
  rw [List.set_comm _ _ (by omega), set_same _ _ _ h2]
theorem flat_to {l : List E3} {k : Nat} {e : E3} (h : l[k]? = some e) (y : Int) : (flat l).set (k * 3 + 2) (.int .i64 y) = flat (l.set k (e.1, e.2.1, y)) := by
  obtain ⟨h0, h1, _⟩ := flat_three h
  rw [flat_set l k _ (len_of h), set_same _ _ _ h0, set_same _ _ _ h1]
theorem lst_lab (fs : List Nat) (lb tb : Nat → Nat) (i j : Nat) (h : i < fs.length) : (flat (lst fs lb tb i j)).set (i * 3 + 1) (.int .i64 (lb i : Int)) = flat (lst fs lb tb (i + 1) j) := by
  rw [flat_lab (lst_at fs lb tb i j i h)]
  congr 1
  apply List.ext_getElem?
  intro x
  rw [List.getElem?_set, lst_len]
  by_cases hx : x < fs.length
  · rw [lst_at _ _ _ _ _ x hx, lst_at _ _ _ _ _ x hx]
    by_cases e : i = x
    · subst e; simp [h]
    · have e2 : (x < i + 1) = (x < i) := by apply propext; omega
      simp only [if_neg e, e2]
  · have e : ¬ i = x := by omega
    rw [if_neg e, List.getElem?_eq_none (by rw [lst_len]; omega), List.getElem?_eq_none (by rw [lst_len]; omega)]
theorem lst_to (fs : List Nat) (lb tb : Nat → Nat) (i j : Nat) (h : j < fs.length) : (flat (lst fs lb tb i j)).set (j * 3 + 2) (.int .i64 (tb j : Int)) = flat (lst fs lb tb i (j + 1)) := by
  rw [flat_to (lst_at fs lb tb i j j h)]
  congr 1
  apply List.ext_getElem?
  intro x
  rw [List.getElem?_set, lst_len]
  by_cases hx : x < fs.length
  · rw [lst_at _ _ _ _ _ x hx, lst_at _ _ _ _ _ x hx]
    by_cases e : j = x
    · subst e; simp [h]
    · have e2 : (x < j + 1) = (x < j) := by apply propext; omega
      simp only [if_neg e, e2]
  · have e : ¬ j = x := by omega
    rw [if_neg e, List.getElem?_eq_none (by rw [lst_len]; omega), List.getElem?_eq_none (by rw [lst_len]; omega)]
/-- all as it lies on the way -/
def St (w : World) (b : Nat) (t : List Bool) (n s E : Nat) (v : Value) (l : List E3) (a : Nat) (wr : World) : Prop :=
  wr.ownsRow (w.heap.size + 1) 26 3 v l.length (flat l) ∧ Rd b t a wr ∧ wr.heap[w.heap.size]? = some (.cells #[.int .i64 (n : Int), .int .i64 (s : Int), .int .i64 (E : Int)] 32 (0, 0)) ∧ w.grownBy wr (some b)
theorem St.read {w : World} {b : Nat} {t : List Bool} {n s E : Nat} {v : Value} {l : List E3} {a a' : Nat} {wr w2 : World} (h : St w b t n s E v l a wr) (hb : b < w.heap.size) (hr : Rd b t a' w2) (hg : wr.grownBy w2 (some b)) : St w b t n s E v l a' w2 := by
  refine ⟨h.1.kept hg ?_, hr, ?_, h.2.2.2.trans hg⟩
  · cases e : v.ownBlock with
    | none => exact .inl rfl
    | some k => exact .inr (by have := (h.1.lt k e).1; intro e2; cases e2; omega)
  · rw [hg.block _ ((Array.getElem?_eq_some_iff.1 h.2.2.1).1) (by simp; omega)]; exact h.2.2.1
theorem St.box {w : World} {b : Nat} {t : List Bool} {n s E : Nat} {v : Value} {l : List E3} {a : Nat} {wr : World} (h : St w b t n s E v l a wr) : wr.cell? ⟨w.heap.size, 0, none⟩ = some (.int .i64 (n : Int)) ∧ wr.cell? ⟨w.heap.size, 1, none⟩ = some (.int .i64 (s : Int)) ∧ wr.cell? ⟨w.heap.size, 2, none⟩ = some (.int .i64 (E : Int)) :=
  ⟨by rw [cell_of_row wr _ 0 _ _ _ h.2.2.1]; rfl, by rw [cell_of_row wr _ 1 _ _ _ h.2.2.1]; rfl, by rw [cell_of_row wr _ 2 _ _ _ h.2.2.1]; rfl⟩
theorem St.app {w : World} {b : Nat} {t : List Bool} {n s E : Nat} {v v' : Value} {l : List E3} {e : E3} {a : Nat} {wr w2 : World} {o : Obj} (h : St w b t n s E v l a wr) (hb : b < w.heap.size) (hown : w2.ownsRow (w.heap.size + 1) 26 3 v' (l.length + 1) (flat l ++ [.int .i64 e.1, .int .i64 e.2.1, .int .i64 e.2.2])) (hg : (wr.alloc o).grownBy w2 v.ownBlock) : St w b t n s E v' (l ++ [e]) a w2 := by
  have hne : ∀ k, k ≤ w.heap.size → some k ≠ v.ownBlock := fun k hk e => by
    have := (h.1.lt k e.symm).1; omega
  have hg2 := World.grownBy_alloc wr o none
  have hx : w.heap.size < wr.heap.size := (Array.getElem?_eq_some_iff.1 h.2.2.1).1
  refine ⟨by rw [flat_snoc, List.length_append]; exact hown, rd_kept (rd_kept h.2.1 hg2 (by simp)) hg (hne b (by omega)), ?_, ?_⟩
  · rw [hg.block _ (by simp; omega) (hne _ (Nat.le_refl _)), hg2.block _ hx (by simp)]; exact h.2.2.1
  · have hw := h.2.2.2
    refine ⟨hg.os.trans (hg2.os.trans hw.os), hg.tape.trans (hg2.tape.trans hw.tape), hg.output.trans (hg2.output.trans hw.output), Nat.le_trans hw.size (Nat.le_trans hg2.size hg.size), fun k hk hne2 => ?_⟩
    rw [hg.block k (by have := hw.size; simp; omega) (hne k (by omega)), hg2.block k (by have := hw.size; omega) (by simp)]
    exact hw.block k hk hne2
theorem St.put {w : World} {b : Nat} {t : List Bool} {n s E : Nat} {g m cap : Nat} {l l' : List E3} {a j : Nat} {u : Value} {wr : World} (h : St w b t n s E (.slice (some ⟨g, 0, none⟩) m cap) l a wr) (hb : b < w.heap.size) (hf : (flat l).set j u = flat l') (hm : l.length = m) (hl : l'.length = m) : St w b t n s E (.slice (some ⟨g, 0, none⟩) m cap) l' a (wr.setCell ⟨g, j, none⟩ u) := by
  subst hm
  have h2 := h.1.stored j u
  have hgk := (h.1.lt g rfl).1
  refine ⟨by rw [hl, ← hf]; exact h2.1, ?_, ?_, ?_⟩
  · unfold Rd
    rw [heap_setCell_other _ _ _ _ (by show b ≠ g; omega)]; exact h.2.1
  · rw [heap_setCell_other _ _ _ _ (by show w.heap.size ≠ g; omega)]; exact h.2.2.1
  · have hw := h.2.2.2
    refine ⟨hw.os, hw.tape, hw.output, by simp; exact hw.size, fun k hk hne2 => ?_⟩
    rw [heap_setCell_other _ _ _ _ (by show k ≠ g; omega)]
    exact hw.block k hk hne2
theorem St.cellAt {w : World} {b : Nat} {t : List Bool} {n s E : Nat} {g m cap : Nat} {l : List E3} {a j : Nat} {e : E3} {wr : World} (h : St w b t n s E (.slice (some ⟨g, 0, none⟩) m cap) l a wr) (hm : l.length = m) (hj : l[j]? = some e) :
    (wr.cell? ⟨g, j * 3 + 1, none⟩ = some (.int .i64 e.2.1) ∧ wr.frozen? ⟨g, j * 3 + 1, none⟩ = false) ∧ wr.cell? ⟨g, j * 3 + 2, none⟩ = some (.int .i64 e.2.2) ∧ wr.frozen? ⟨g, j * 3 + 2, none⟩ = false := by
  subst hm
  have hl := len_of hj
  obtain ⟨_, h1, h2⟩ := flat_three hj
  exact ⟨⟨by rw [h.1.cellAt _ (by omega)]; exact h1, h.1.frozenAt _⟩, by rw [h.1.cellAt _ (by omega)]; exact h2, h.1.frozenAt _⟩
theorem St.some {w : World} {b : Nat} {t : List Bool} {n s E : Nat} {a0 : Option Addr} {m cap : Nat} {l : List E3} {a : Nat} {wr : World} (h : St w b t n s E (.slice a0 m cap) l a wr) (hm : l.length = m) (h0 : 0 < m) : ∃ g, a0 = some ⟨g, 0, none⟩ := by
  rcases h.1.2 with ⟨h', h2⟩ | ⟨g', cap', cur, h', _⟩
  · cases h'; omega
  · cases h'; exact ⟨g', rfl⟩
end Go.Proofs.YtphjbbbnbmafnaaGreat.G
