/-
  The document's own bits of a graph (trellisref.bits), over edges in order that lie in memory: the bits of the graph, with 0 up to whole pages; nothing that was there is written.
  The bytes of a string, in stretches; pages that are compared whole; pages.Read's refusals by size.
  The program's reading of pages (pages.Read): ErrCorrupt, or the bits of all pages; nothing that was there is written.
-/
import Derived.Test.YtphjbbbnbmafnabGreatDoorPText
import Derived.Test.YtphjbbbnbmafnabGreatDoorPSum
import Derived.Deep.RegionHeld
import Derived.Deep.MidRow
import Derived.Stop.BytesEq
import Derived.Laws.Cover3
namespace Go.Proofs.YtphjbbbnbmafnabGreatDoor.G
open Go.RowKit

theorem txt_append (l m : List Bool) : txt l ++ txt m = txt (l ++ m) := by
  apply ByteArray.ext
  simp [txt]
/-- bits in a row of bytes of one's own -/
def BM (w wr : World) (v : Value) (L : List Bool) : Prop := OwnM wr w.heap.size 5 v (valsT L) ∧ Below w.heap.size w wr
theorem BM.step {w wr w2 : World} {v v' : Value} {L M : List Bool} (h : BM w wr v L) (ho : OwnM w2 w.heap.size 5 v' (valsT L ++ valsT M)) (hg : wr.grownBy w2 v.ownBlock) : BM w w2 v' (L ++ M) :=
  ⟨by rw [valsT_append]; exact ho, h.2.grown hg h.2.size (fun k hk => h.1.lt k hk)⟩
theorem BM.step' {w wr w2 : World} {v v' : Value} {L M : List Bool} {o : Obj} (h : BM w wr v L) (ho : OwnM w2 w.heap.size 5 v' (valsT L ++ valsT M)) (hg : (wr.alloc o).grownBy w2 v.ownBlock) : BM w w2 v' (L ++ M) :=
  ⟨by rw [valsT_append]; exact ho, (h.2.alloc h.2.size o).grown hg (by have := h.2.size; simp; omega) (fun k hk => h.1.lt k hk)⟩
theorem conv_start (w wr : World) (L : List Bool) (hB : Below w.heap.size w wr) (hl : L.length ≤ 1000) :
    ∃ v w2, (convert 9 70 (.string (txt L))).run Tryz.prog wr = .ok v w2 ∧ BM w w2 v L := by
  refine ⟨_, _, run_bytes_of_string (P := Tryz.prog) wr 9 70 5 (txt L) Tryz.underlying9 Tryz.underlying70 Tryz.underlying5, ?_, (hB.drew).alloc hB.size _⟩
  have hge := grownCap_ge wr (txt L).size 0 5
  have hts := txt_size L
  have hsz : (bytesRow (txt L) (grownCap wr (txt L).size 0 5)).size = grownCap wr (txt L).size 0 5 := by
    unfold bytesRow
    rw [Array.size_append, Array.size_map, Array.size_replicate, show (txt L).data.size = (txt L).size from rfl]
    omega
  refine ⟨wr.heap.size, grownCap wr (txt L).size 0 5, _, _, by rw [valsT_len, hts], hB.size, heap_alloc_new wr.drew _, fun j hj h => ?_, by rw [valsT_len, ← hts]; exact hge, grownCap_le_maxLen wr _ 0 _ (by rw [hts]; unfold maxLen; omega), hsz, ?_⟩
  · rw [hsz] at h; simp only at h; omega
  · unfold bytesRow
    rw [Array.toList_append, List.take_append_of_le_length (by simp [valsT, txt]), List.take_of_length_le (by simp [valsT, txt])]
    have := strT L
    unfold Lib.strCells at this
    simpa using this
theorem conv_end {w wr : World} {v : Value} {L : List Bool} (h : BM w wr v L) : ∃ g cap, v = .slice (some ⟨g, 0, none⟩) L.length cap ∧ (convert 70 9 (.slice (some ⟨g, 0, none⟩) L.length cap)).run Tryz.prog wr = .ok (.string (txt L)) wr := by
  obtain ⟨g, cap, cur, fz, rfl, _, hg, _, _, _, _, ht⟩ := h.1
  rw [valsT_len]
  refine ⟨g, cap, rfl, ?_⟩
  have := run_convert_bytes_back (P := Tryz.prog) wr 70 9 5 ⟨g, 0, none⟩ cap (L.map fun b => if b then (49 : UInt8) else 48) Tryz.underlying70 Tryz.underlying5 Tryz.underlying9 (fun j hj => by
    have hjl : j < L.length := by simpa using hj
    refine ownM_cells hg ht j _ ?_
    unfold valsT
    rw [List.getElem?_map, List.getElem?_eq_getElem hjl]
    simp only [Option.map_some, List.getElem_map]
    cases L[j] <;> rfl)
  rw [List.length_map] at this
  exact this
def lenV : Value → Nat
  | .slice _ n _ => n
  | _ => 0
/-- 0 up to whole pages -/
def padN (k : Nat) : Nat := (2016 - k % 2016) % 2016
def padB (L : List Bool) : List Bool := L ++ List.replicate (padN L.length) false
theorem padB_len (L : List Bool) : (padB L).length = 2016 * npages L.length := by
  unfold padB padN npages
  simp
  omega
end Go.Proofs.YtphjbbbnbmafnabGreatDoor.G

namespace Go.Proofs.YtphjbbbnbmafnabGreatDoor.G
open Go.RowKit

/-- so many bytes of a string, from a place on -/
def byt (s : ByteArray) (a n : Nat) : List Nat := (List.range n).map fun i => (s.data.toList.getD (a + i) 0).toNat
theorem byt_len (s : ByteArray) (a n : Nat) : (byt s a n).length = n := by simp [byt]
theorem byt_lt (s : ByteArray) (a n x : Nat) (h : x ∈ byt s a n) : x < 256 := by
  unfold byt at h
  obtain ⟨i, _, rfl⟩ := List.mem_map.1 h
  exact UInt8.toNat_lt _
theorem byt_at (s : ByteArray) (a n i : Nat) (h : i < n) : (byt s a n)[i]? = some (s.data.toList.getD (a + i) 0).toNat := by
  unfold byt
  rw [List.getElem?_map, List.getElem?_range h]; rfl
/-- a page is sealed -/
def pageOk (s : ByteArray) (p : Nat) : Prop := byt s (256 * p + 252) 4 = Crc.be4 (Crc.sumOf p (byt s (256 * p) 252))
/-- the bits of the first k pages -/
def textN (s : ByteArray) : Nat → List Bool
  | 0 => []
  | k + 1 => textN s k ++ nums 8 (byt s (256 * k) 252)
theorem textN_len (s : ByteArray) (k : Nat) : (textN s k).length = 2016 * k := by
  induction k with
  | zero => rfl
  | succ k ih => show (textN s k ++ _).length = _; rw [List.length_append, ih, nums_len, byt_len]; omega
def sizeOkI (s : ByteArray) : Prop := s.size ≠ 0 ∧ s.size % 256 = 0 ∧ s.size ≤ 256000
set_option maxHeartbeats 2000000 in
set_option maxRecDepth 100000 in
theorem pread_size (s : ByteArray) (w : World) (hs : ¬ (s.size ≠ 0 ∧ s.size % 256 = 0 ∧ s.size ≤ 256000)) (hb : s.size ≤ 9223372036854775807) :
    Calls Tryz.prog 20 #[.string s] w fun e w' => e = .returned (.tuple #[.string ⟨#[]⟩, .int .i64 3]) ∧ w' = w := by
  by_cases h0 : s.size = 0
  · have h0I : ((s.size : Int) == 0) = true := by simpa using (by omega : (s.size : Int) = 0)
    clear hs
    go_enter Tryz.func20, Tryz.ntmps20
    go_wp2
    go_ret2
    exact ⟨rfl, rfl⟩
  · have h0I : ((s.size : Int) == 0) = false := by simpa using (by omega : ¬ (s.size : Int) = 0)
    have htm : (s.size : Int).tmod 256 = (s.size : Int) % 256 := Int.tmod_eq_emod_of_nonneg (by omega)
    by_cases h1 : s.size % 256 = 0
    · have h1I : ((s.size : Int) % 256 != 0) = false := by simpa using (by omega : (s.size : Int) % 256 = 0)
      have h2 : (s.size : Int) > 256000 := by
        rcases Nat.lt_or_ge 256000 s.size with h | h
        · omega
        · exact absurd ⟨h0, h1, h⟩ hs
      clear hs
      go_enter Tryz.func20, Tryz.ntmps20
      go_wp2
      go_ret2
      exact ⟨rfl, rfl⟩
    · have h1I : ((s.size : Int) % 256 != 0) = true := by simpa using (by omega : ¬ (s.size : Int) % 256 = 0)
      clear hs
      go_enter Tryz.func20, Tryz.ntmps20
      go_wp2
      go_ret2
      exact ⟨rfl, rfl⟩
theorem bytes_range (s : ByteArray) (cap : Nat) (fz : Nat × Nat) (W : World) (g : Nat) (hW : W.heap[g]? = some (.cells (bytesRow s cap) 5 fz)) (a n : Nat) (h : a + n ≤ s.size) : W.rangeAt g a (valsB (byt s a n)) := by
  intro j v hv
  have hj : j < n := by
    have := (List.getElem?_eq_some_iff.1 hv).1
    simpa [valsB, byt_len] using this
  unfold valsB at hv
  rw [List.getElem?_map, byt_at s a n j hj] at hv
  simp only [Option.map_some, Option.some.injEq] at hv
  subst hv
  rw [cell_of_row W g (a + j) _ _ _ hW]
  unfold bytesRow
  have hsz : s.data.size = s.size := rfl
  rw [Array.getElem?_append_left (by simp; omega), Array.getElem?_map, Array.getElem?_eq_getElem (by omega)]
  simp only [Option.map_some]
  congr 2
  rw [List.getD_eq_getElem?_getD, Array.getElem?_toList, Array.getElem?_eq_getElem (by omega)]
  rfl
theorem valsB_cells (l : List Nat) (h : ∀ x ∈ l, x < 256) : valsB l = (l.map UInt8.ofNat).map Extern.Stop.cell := by
  unfold valsB
  rw [List.map_map]
  refine List.map_congr_left (fun x hx => ?_)
  have := h x hx
  have e : (UInt8.ofNat x).toNat = x := by simp; omega
  simp only [Function.comp, Extern.Stop.cell]
  rw [e]
  rfl
theorem ofNat_inj8 : ∀ (l m : List Nat), (∀ x ∈ l, x < 256) → (∀ x ∈ m, x < 256) → l.map UInt8.ofNat = m.map UInt8.ofNat → l = m
  | [], [], _, _, _ => rfl
  | [], _ :: _, _, _, h => by simp at h
  | _ :: _, [], _, _, h => by simp at h
  | a :: l, b :: m, h1, h2, h => by
    simp only [List.map_cons, List.cons.injEq] at h
    have ha := h1 a (by simp)
    have hb := h2 b (by simp)
    have e := congrArg UInt8.toNat h.1
    have ea : (UInt8.ofNat a).toNat = a := by simp; omega
    have eb : (UInt8.ofNat b).toNat = b := by simp; omega
    rw [ea, eb] at e
    rw [e, ofNat_inj8 l m (fun x hx => h1 x (by simp [hx])) (fun x hx => h2 x (by simp [hx])) h.2]
theorem eqPage (l m : List Nat) (hl : l.length = 256) (hm : m.length = 256) (h1 : ∀ x ∈ l, x < 256) (h2 : ∀ x ∈ m, x < 256) (w : World) :
    (Op.equalIn 10000 75 (.agg (valsB l).toArray) (.agg (valsB m).toArray)).run Tryz.prog w = .ok (decide (l = m)) w := by
  rw [valsB_cells l h1, valsB_cells m h2, run_equalIn_bytes w 9998 75 5 256 Tryz.underlying75 Tryz.underlying5 (fun w => by kernel_rfl) _ _ (by simpa using hl) (by simpa using hm)]
  have e : ((l.map UInt8.ofNat) == (m.map UInt8.ofNat)) = decide (l = m) := by
    by_cases h : l = m
    · subst h; simp
    · rw [decide_eq_false h]
      exact beq_eq_false_iff_ne.2 (fun e => h (ofNat_inj8 l m h1 h2 e))
  rw [e]
theorem byt_append (s : ByteArray) (a n m : Nat) : byt s a (n + m) = byt s a n ++ byt s (a + n) m := by
  unfold byt
  rw [List.range_add, List.map_append, List.map_map]
  congr 1
  refine List.map_congr_left (fun i _ => ?_)
  simp only [Function.comp]
  rw [Nat.add_assoc]
end Go.Proofs.YtphjbbbnbmafnabGreatDoor.G

namespace Go.Proofs.YtphjbbbnbmafnabGreatDoor.G
open Go.RowKit

set_option linter.unusedSimpArgs false in
set_option maxHeartbeats 8000000 in
set_option maxRecDepth 100000 in
theorem pread_any (s : ByteArray) (w : World) (n : Nat) (hn : s.size = 256 * n) (hn0 : n ≠ 0) (hn1 : n ≤ 1000) :
    Calls Tryz.prog 20 #[.string s] w fun e w' => ((∃ p < n, ¬ pageOk s p) ∧ e = .returned (.tuple #[.string ⟨#[]⟩, .int .i64 4]) ∨ (∀ p < n, pageOk s p) ∧ e = .returned (.tuple #[.string (txt (textN s n)), .int .i64 0])) ∧ Below w.heap.size w w' := by
  have h0I : ((s.size : Int) == 0) = false := by simpa using (by omega : ¬ (s.size : Int) = 0)
  have htm : (s.size : Int).tmod 256 = 0 := by rw [Int.tmod_eq_emod_of_nonneg (by omega)]; omega
  have htm2 : (s.size : Int) % 256 = 0 := by omega
  have h2I : ¬ (s.size : Int) > 256000 := by omega
  have htd : (s.size : Int).tdiv 256 = (n : Int) := by rw [Int.tdiv_eq_ediv_of_nonneg (by omega)]; omega
  have hed : (s.size : Int) / 256 = (n : Int) := by omega
  have hcv := run_bytes_of_string (P := Tryz.prog) w 9 70 5 s Tryz.underlying9 Tryz.underlying70 Tryz.underlying5
  have hge := grownCap_ge w s.size 0 5
  generalize hcap : grownCap w s.size 0 5 = cap at hcv hge
  clear hcap
  generalize hfz : ((bytesRow s cap).size, (bytesRow s cap).size + 1) = fz at hcv
  clear hfz
  have hcv2 := hcv
  have HN : Hid _ := hn
  clear hn
  go_enter Tryz.func20, Tryz.ntmps20
  go_wp2
  go_loopw [28] (fun si wr => ∃ i : Nat, i ≤ n ∧ si = .int .i64 (i : Int) ∧ Hid (Bu (w.heap.size + 1) (w.heap.size + 1) (valsT (textN s i)) wr ∧ wr.heap[w.heap.size]? = some (.cells (bytesRow s cap) 5 fz) ∧ Below w.heap.size w wr ∧ ∀ p < i, pageOk s p)) (fun si _ => n - (intOf si).toNat)
  case atStart =>
    refine ⟨0, Nat.zero_le _, rfl, ?_, ?_, ?_, ?_⟩
    · exact (by simpa using Lib.IsBuilderF.of (Lib.fresh_isBuilder 73 5 (w.alloc (.cells (bytesRow s cap) 5 fz))) : Bu (w.heap.size + 1) (w.heap.size + 1) [] ((w.alloc (.cells (bytesRow s cap) 5 fz)).alloc (.cells #[.pointer none, .slice none 0 0] 73)))
    · have h : ((w.alloc (.cells (bytesRow s cap) 5 fz)).alloc (.cells #[.pointer none, .slice none 0 0] 73)).heap[w.heap.size]? = some (.cells (bytesRow s cap) 5 fz) := by
        rw [old_alloc (by simp)]; exact heap_alloc_new _ _
      exact h
    · exact (below2 _ _ _).drew
    · intro p hp; omega
  case round =>
    obtain ⟨i, hi, rfl, HI⟩ := hrel
    by_cases hlt : i < n
    · have h1 : (i : Int) * 256 ≤ (s.size : Int) := by have := HN.out; omega
      have h2 : (i : Int) * 256 + 256 ≤ (s.size : Int) := by have := HN.out; omega
      have harr := run_arrayAt (P := Tryz.prog) (w := wr) 75 5 256 (some ⟨w.heap.size, i * 256, none⟩) (s.size - i * 256) (cap - i * 256) Tryz.underlying75 (by have := HN.out; omega)
      have hv := vals_len (byt s (i * 256) 256)
      rw [byt_len] at hv
      have HR : Hid (wr.rangeAt w.heap.size (i * 256) (valsB (byt s (i * 256) 256))) := bytes_range s cap fz wr w.heap.size HI.out.2.1 (i * 256) 256 (by have := HN.out; omega)
      have HBy : Hid (byt s (i * 256) 256 = byt s (i * 256) 252 ++ byt s (i * 256 + 252) 4) := byt_append s (i * 256) 252 4
      have hv2 := vals_len (byt s (i * 256) 252)
      rw [byt_len] at hv2
      go_wp2_with fail
      refine wp_load_mid 75 _ rfl w.heap.size (i * 256) rfl _ _ HR.out Tryz.underlying75 rfl (by rw [Tryz.infoPage, hv]) ?_
      go_wp2_with fail
      rw [store_row (wr.alloc (.cells Tryz.zeroCells75 75)) wr.heap.size _ (valsB (byt s (i * 256) 256)) 75 (heap_alloc_new _ _) (by rw [Tryz.zeroCells75_size]; exact hv) (vals_one _), World.setRow_alloc_new]
      have harr2 := run_arrayAt (P := Tryz.prog) (w := wr.alloc (.cells (valsB (byt s (i * 256) 256)).toArray 75)) 78 5 252 (some ⟨wr.heap.size, 0, none⟩) 256 256 Tryz.underlying78 (by decide)
      clear harr
      have HP : Hid (∀ W : World, W.heap[wr.heap.size]? = some (.cells (valsB (byt s (i * 256) 256)).toArray 75 (0, 0)) → W.rangeAt wr.heap.size 0 (valsB (byt s (i * 256) 256)) ∧ W.rangeAt wr.heap.size 0 (valsB (byt s (i * 256) 252))) := (by
        intro W hW
        refine ⟨fun j v hv => ?_, fun j v hv => ?_⟩
        · rw [cell_of_row W _ _ _ _ _ hW, Nat.zero_add]; simpa using hv
        · rw [cell_of_row W _ _ _ _ _ hW, Nat.zero_add, HBy.out, valsB_append]
          have hj : j < (valsB (byt s (i * 256) 252)).length := (List.getElem?_eq_some_iff.1 hv).1
          rw [List.getElem?_toArray, List.getElem?_append_left hj]
          exact hv : ∀ W : World, _ → _)
      go_wp2_with fail
      refine wp_load_mid 78 _ rfl wr.heap.size 0 rfl _ _ (HP.out _ (heap_alloc_new _ _)).2 Tryz.underlying78 rfl (by rw [Tryz.infoBody, hv2]) ?_
      go_wp2_with fail
      rw [store_row _ (wr.heap.size + 1) _ (valsB (byt s (i * 256) 252)) 78 (heap_alloc2_new _ _ _) (by rw [Tryz.zeroCells78_size]; exact hv2) (vals_one _)]
      obtain ⟨W, hW⟩ : ∃ W, W = ((wr.alloc (.cells (valsB (byt s (i * 256) 256)).toArray 75)).alloc (.cells Tryz.zeroCells78 78)).setRow (wr.heap.size + 1) (valsB (byt s (i * 256) 252)).toArray := ⟨_, rfl⟩
      rw [← hW]
      have HBW : Hid (Below wr.heap.size wr W) := (by rw [hW]; exact below_setRow (below2 _ _ _) (by omega) _ : Below wr.heap.size wr W)
      have hr1 : W.rangeAt wr.heap.size 0 (valsB (byt s (i * 256) 256)) := (HP.out _ (by rw [hW, setRow_other _ _ _ _ (by omega), old_alloc (by simp)]; exact heap_alloc_new _ _)).1
      have hb2 : W.heap[wr.heap.size + 1]? = some (.cells (valsB (byt s (i * 256) 252)).toArray 78 (0, 0)) := by rw [hW]; exact setRow_heap _ _ _ _ _ _ (heap_alloc2_new _ _ _)
      have hr2 : W.rangeAt (wr.heap.size + 1) 0 (valsB (byt s (i * 256) 252)) := fun j v hv => by
        rw [cell_of_row W _ _ _ _ _ hb2, Nat.zero_add]; simpa using hv
      have hWs : W.heap.size = wr.heap.size + 2 := by rw [hW]; simp
      clear hW harr2 HR HP
      have HSe : ∀ W', Hid (Calls Tryz.prog 29 _ W' _) := fun W' => sealed_any i (byt s (i * 256) 252) (by omega) (byt_len _ _ _) (fun x hx => byt_lt _ _ _ x hx) W'
      have hlsum : (byt s (i * 256) 252 ++ Crc.be4 (Crc.sumOf i (byt s (i * 256) 252))).length = 256 := by rw [List.length_append, byt_len]; simp [Crc.be4]
      have hq : ∀ w', (Op.equalIn 10000 75 (.agg (valsB (byt s (i * 256) 256)).toArray) (.agg (valsB (byt s (i * 256) 252 ++ Crc.be4 (Crc.sumOf i (byt s (i * 256) 252)))).toArray)).run Tryz.prog w' = .ok (decide (byt s (i * 256) 256 = byt s (i * 256) 252 ++ Crc.be4 (Crc.sumOf i (byt s (i * 256) 252)))) w' := fun w' => eqPage _ _ (byt_len _ _ _) hlsum (fun x hx => byt_lt _ _ _ x hx) (fun x hx => by
        rcases List.mem_append.1 hx with h | h
        · exact byt_lt _ _ _ x h
        · simp only [Crc.be4, List.mem_cons, List.not_mem_nil, or_false] at h
          omega) w'
      have hgu : Tryz.prog.eqGuardType Tryz.prog.depth 75 = false := by kernel_rfl
      have hu1 := Tryz.underlying75
      have hu2 := Tryz.underlying78
      have hi1 : (Tryz.prog.info? 75).map (·.size) = some (valsB (byt s (i * 256) 256)).length := by rw [Tryz.infoPage, hv]
      have hi2 : (Tryz.prog.info? 78).map (·.size) = some (valsB (byt s (i * 256) 252)).length := by rw [Tryz.infoBody, hv2]
      generalize hPg : byt s (i * 256) 256 = Pg at *
      generalize hCt : byt s (i * 256) 252 = Ct at *
      go_wp2_with fail
      refine wp_region_held_drew (S := fun w' => w'.rangeAt wr.heap.size 0 (valsB Pg) ∧ w'.rangeAt (wr.heap.size + 1) 0 (valsB Ct)) (by kernel_rfl) ⟨(World.rangeAt_drew _ _ _ _).2 hr1, (World.rangeAt_drew _ _ _ _).2 hr2⟩ (fun hHeld => ?_)
      refine wpAnyH_take (i := 0) rfl (by kernel_rfl) (by kernel_rfl) (by kernel_rfl) (fun _ _ _ h => h) (yieldsIf_load_mid (by rfl) 75 _ rfl wr.heap.size 0 rfl (valsB Pg) _ (fun _ h => h.1) hu1 rfl hi1) hHeld ?_
      simp only [Act.put, List.setIfInBounds_toArray, List.set_cons_zero, List.set_cons_succ]
      refine wpAnyH_take (i := 1) (v := .int .i64 (i : Int)) rfl (by kernel_rfl) (by kernel_rfl) (by kernel_rfl) (fun _ _ _ h => h) (Or.inl ⟨by rfl, fun w _ => by go_simp⟩) hHeld ?_
      simp only [Act.put, List.setIfInBounds_toArray, List.set_cons_zero, List.set_cons_succ]
      refine wpAnyH_take (i := 2) rfl (by kernel_rfl) (by kernel_rfl) (by kernel_rfl) (fun _ _ _ h => h) (yieldsIf_load_mid (by rfl) 78 _ rfl (wr.heap.size + 1) 0 rfl (valsB Ct) _ (fun _ h => h.2) hu2 rfl hi2) hHeld ?_
      simp only [Act.put, List.setIfInBounds_toArray, List.set_cons_zero, List.set_cons_succ]
      refine wpAnyH_ready (rs := [3]) (by kernel_rfl) (by simp) ?_
      refine AllReadyH.cons rfl (fun K hK => ?_) AllReadyH.nil
      go_simp
      refine (Calls.mono (HSe _).out ?_)
      rintro e w1 ⟨rfl, hB1⟩
      refine hK.out _ _ ⟨fun j v hv => cell_kept hB1 _ _ (by rw [World.cell?_drew]; exact hr1 j v hv), fun j v hv => cell_kept hB1 _ _ (by rw [World.cell?_drew]; exact hr2 j v hv)⟩ (fun hHeld2 => ?_)
      clear hK K
      generalize hsl : Ct ++ Crc.be4 (Crc.sumOf i Ct) = Sl at *
      generalize hd : decide (Pg = Sl) = d at *
      refine wpAnyH_take (i := 4) (oi := { dst := some 44, op := .binOp .neq 75 (.tmp 40) (.tmp 43) 75, type := 4, pos := "pages.go:45", after := #[{ on := 0, ground := .data }, { on := 3, ground := .data }], guard := none }) (v := .bool (!d)) rfl (by kernel_rfl) (by kernel_rfl) (by kernel_rfl) (fun _ _ _ h => h) (Or.inl ⟨by rfl, fun w _ => by go_simp⟩) hHeld2 ?_
      dsimp only [Act.put]
      simp only [List.setIfInBounds_toArray, List.set_cons_zero, List.set_cons_succ]
      refine wpAnyH_done (by kernel_rfl) ?_ _
      have HD : Hid _ := hd
      have HSl : Hid _ := hsl
      have HPg : Hid _ := hPg
      have HCt : Hid _ := hCt
      have HB1 : Hid _ := hB1
      have HH2 : Hid _ := hHeld2
      clear hd hsl hPg hCt hB1 hHeld2 hHeld hq hr1 hr2 hb2 HSe
      cases d
      · have HX : Hid ((∃ p < n, ¬ pageOk s p) ∧ Below w.heap.size w w1) := (by
          refine ⟨⟨i, hlt, fun hp => ?_⟩, HI.out.2.2.1.trans ((HBW.out.trans ((Below.refl _ _).drew.trans (HB1.out.mono (by simp; omega)))).mono HI.out.2.2.1.size)⟩
          have h := HD.out
          rw [decide_eq_false_iff_not] at h
          refine h ?_
          rw [HBy.out, ← HSl.out]
          unfold pageOk at hp
          rw [Nat.mul_comm 256 i] at hp
          rw [hp, HCt.out] : _ ∧ _)
        go_wp2
        go_ret2
        exact ⟨.inl ⟨HX.out.1, rfl⟩, HX.out.2⟩
      · have HY : Hid (pageOk s i) := (by
          have h := of_decide_eq_true HD.out
          rw [HBy.out, ← HSl.out] at h
          unfold pageOk
          rw [Nat.mul_comm 256 i, HCt.out]
          exact List.append_cancel_left h : pageOk s i)
        have hW1 : Below wr.heap.size wr w1 := HBW.out.trans ((Below.refl _ _).drew.trans (HB1.out.mono (by simp; omega)))
        have hbb := bu_blk HI.out.1
        have hU := unpack_any Ct (by rw [← HCt.out, byt_len]) (fun x hx => byt_lt _ _ _ x (by rw [HCt.out]; exact hx)) (w.heap.size + 1) (w.heap.size + 1) (textN s i) w1 (bu_below HI.out.1 hW1) (by have := hW1.size; omega) (by rw [textN_len]; omega)
        have HU : Hid (Calls Tryz.prog 41 _ w1 _) := hU
        clear hU
        go_wp2_with fail
        refine wp_load_mid 78 _ rfl (wr.heap.size + 1) 0 rfl _ _ HH2.out.2 hu2 rfl hi2 ?_
        go_wp2_with fail
        refine (Calls.mono HU.out ?_)
        rintro e w2 ⟨rfl, hb9, hl9⟩
        have HI2 : Hid (Bu (w.heap.size + 1) (w.heap.size + 1) (valsT (textN s (i + 1))) w2 ∧ w2.heap[w.heap.size]? = some (.cells (bytesRow s cap) 5 fz) ∧ Below w.heap.size w w2 ∧ ∀ p < i + 1, pageOk s p) := (by
          refine ⟨?_, ?_, HI.out.2.2.1.trans ((hW1.mono HI.out.2.2.1.size).trans (hl9.mono (by omega))), fun p hp => ?_⟩
          · show Bu _ _ (valsT (textN s i ++ nums 8 (byt s (256 * i) 252))) w2
            rw [Nat.mul_comm 256 i, HCt.out]; exact hb9
          · rw [hl9.block _ (by omega), hW1.block _ (by omega)]; exact HI.out.2.1
          · rcases Nat.lt_succ_iff_lt_or_eq.1 hp with h | h
            · exact HI.out.2.2.2 p h
            · rw [h]; exact HY.out : _ ∧ _)
        clear hb9 hl9 hW1
        go_wp2
        go_roundw
        case rel => exact ⟨i + 1, by omega, by go_num, HI2.out⟩
        case measure => simp [intOf]; omega
    · obtain rfl : i = n := by omega
      have hv := valsT_bytes (textN s i)
      have hI := HI.out.1
      rw [hv] at hI
      have HSt : Hid (Calls Tryz.prog 32 _ wr _) := Tryz.Builder_String_any_k (w.heap.size + 1) (w.heap.size + 1) _ wr hI (by have := bu_blk HI.out.1; omega)
      clear hv hI
      go_wp2_with fail
      refine (Calls.mono HSt.out ?_)
      rintro e w3 ⟨rfl, hb3, hl3, ho3⟩
      have HE : Hid (Below w.heap.size w w3) := HI.out.2.2.1.trans (hl3.mono (by omega))
      clear hb3 hl3 ho3
      go_wp2
      go_ret2
      exact ⟨.inr ⟨HI.out.2.2.2, rfl⟩, HE.out⟩
end Go.Proofs.YtphjbbbnbmafnabGreatDoor.G
