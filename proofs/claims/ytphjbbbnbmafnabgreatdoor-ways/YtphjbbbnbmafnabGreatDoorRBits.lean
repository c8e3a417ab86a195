/-
  The document's own bits of a graph (trellisref.bits), over edges in order that lie in memory: the bits of the graph, with 0 up to whole pages; nothing that was there is written.
-/
import Derived.Test.YtphjbbbnbmafnabGreatDoorPText
import Derived.Test.YtphjbbbnbmafnabGreatDoorOwnM
namespace Go.Proofs.YtphjbbbnbmafnabGreatDoor.G
open Go.RowKit

theorem txt_append (l m : List Bool) : txt l ++ txt m = txt (l ++ m) := by
  apply ByteArray.ext
  simp [txt]
/-- bits in a row of bytes of one's own -/
def BM (w wr : World) (v : Value) (L : List Bool) : Prop := OwnM wr w.heap.size 5 v (valsT L) ∧ Below w.heap.size w wr
theorem BM.step {w wr w2 : World} {v v' : Value} {L M : List Bool} (h : BM w wr v L) (ho : OwnM w2 w.heap.size 5 v' (valsT L ++ valsT M)) (hg : wr.grownBy w2 v.ownBlock) : BM w w2 v' (L ++ M) :=
  ⟨by rw [valsT_append]; exact ho, h.2.grown hg h.2.size (fun k hk => h.1.lt k hk)⟩
theorem BM.step' {w wr w2 : World} {v v' : Value} {L M : List Bool} {o : Obj} (h : BM w wr v L) (ho : OwnM w2 w.heap.size 5 v' (valsT L ++ valsT M)) (hg : (wr.alloc o).grownBy w2 v.ownBlock) : BM w w2 v' (L ++ M) :=
  ⟨by rw [valsT_append]; exact ho, (h.2.alloc h.2.size o).grown hg (by have := h.2.size; simp; omega) (fun k hk => h.1.lt k hk)⟩
theorem conv_start (w wr : World) (L : List Bool) (hB : Below w.heap.size w wr) (hl : L.length ≤ 1000) :
    ∃ v w2, (convert 9 70 (.string (txt L))).run Tryz.prog wr = .ok v w2 ∧ BM w w2 v L := by
  refine ⟨_, _, run_bytes_of_string (P := Tryz.prog) wr 9 70 5 (txt L) Tryz.underlying9 Tryz.underlying70 Tryz.underlying5, ?_, (hB.drew).alloc hB.size _⟩
  have hge := grownCap_ge wr (txt L).size 0 5
  have hts := txt_size L
  have hsz : (bytesRow (txt L) (grownCap wr (txt L).size 0 5)).size = grownCap wr (txt L).size 0 5 := by
    unfold bytesRow
    rw [Array.size_append, Array.size_map, Array.size_replicate, show (txt L).data.size = (txt L).size from rfl]
    omega
  refine ⟨wr.heap.size, grownCap wr (txt L).size 0 5, _, _, by rw [valsT_len, hts], hB.size, heap_alloc_new wr.drew _, fun j hj h => ?_, by rw [valsT_len, ← hts]; exact hge, grownCap_le_maxLen wr _ 0 _ (by rw [hts]; unfold maxLen; omega), hsz, ?_⟩
  · rw [hsz] at h; simp only at h; omega
  · unfold bytesRow
    rw [Array.toList_append, List.take_append_of_le_length (by simp [valsT, txt]), List.take_of_length_le (by simp [valsT, txt])]
    have := strT L
    unfold Lib.strCells at this
    simpa using this
theorem conv_end {w wr : World} {v : Value} {L : List Bool} (h : BM w wr v L) : ∃ g cap, v = .slice (some ⟨g, 0, none⟩) L.length cap ∧ (convert 70 9 (.slice (some ⟨g, 0, none⟩) L.length cap)).run Tryz.prog wr = .ok (.string (txt L)) wr := by
  obtain ⟨g, cap, cur, fz, rfl, _, hg, _, _, _, _, ht⟩ := h.1
  rw [valsT_len]
  refine ⟨g, cap, rfl, ?_⟩
  have := run_convert_bytes_back (P := Tryz.prog) wr 70 9 5 ⟨g, 0, none⟩ cap (L.map fun b => if b then (49 : UInt8) else 48) Tryz.underlying70 Tryz.underlying5 Tryz.underlying9 (fun j hj => by
    have hjl : j < L.length := by simpa using hj
    refine ownM_cells hg ht j _ ?_
    unfold valsT
    rw [List.getElem?_map, List.getElem?_eq_getElem hjl]
    simp only [Option.map_some, List.getElem_map]
    cases L[j] <;> rfl)
  rw [List.length_map] at this
  exact this
def lenV : Value → Nat
  | .slice _ n _ => n
  | _ => 0
/-- 0 up to whole pages -/
def padN (k : Nat) : Nat := (2016 - k % 2016) % 2016
def padB (L : List Bool) : List Bool := L ++ List.replicate (padN L.length) false
theorem padB_len (L : List Bool) : (padB L).length = 2016 * npages L.length := by
  unfold padB padN npages
  simp
  omega
end Go.Proofs.YtphjbbbnbmafnabGreatDoor.G
