/-
  The bytes of a string, in stretches; pages that are compared whole; pages.Read's refusals by size.
-/
import Derived.Test.YtphjbbbnbmafnabGreatDoorPText
import Derived.Test.YtphjbbbnbmafnabGreatDoorRBits
import Derived.Deep.RegionHeld
import Derived.Deep.MidRow
import Derived.Stop.BytesEq
import Derived.Laws.Cover3
namespace Go.Proofs.YtphjbbbnbmafnabGreatDoor.G
open Go.RowKit

/-- so many bytes of a string, from a place on -/
def byt (s : ByteArray) (a n : Nat) : List Nat := (List.range n).map fun i => (s.data.toList.getD (a + i) 0).toNat
theorem byt_len (s : ByteArray) (a n : Nat) : (byt s a n).length = n := by simp [byt]
theorem byt_lt (s : ByteArray) (a n x : Nat) (h : x ∈ byt s a n) : x < 256 := by
  unfold byt at h
  obtain ⟨i, _, rfl⟩ := List.mem_map.1 h
  exact UInt8.toNat_lt _
theorem byt_at (s : ByteArray) (a n i : Nat) (h : i < n) : (byt s a n)[i]? = some (s.data.toList.getD (a + i) 0).toNat := by
  unfold byt
  rw [List.getElem?_map, List.getElem?_range h]; rfl
/-- a page is sealed -/
def pageOk (s : ByteArray) (p : Nat) : Prop := byt s (256 * p + 252) 4 = Crc.be4 (Crc.sumOf p (byt s (256 * p) 252))
/-- the bits of the first k pages -/
def textN (s : ByteArray) : Nat → List Bool
  | 0 => []
  | k + 1 => textN s k ++ nums 8 (byt s (256 * k) 252)
theorem textN_len (s : ByteArray) (k : Nat) : (textN s k).length = 2016 * k := by
  induction k with
  | zero => rfl
  | succ k ih => show (textN s k ++ _).length = _; rw [List.length_append, ih, nums_len, byt_len]; omega
def sizeOkI (s : ByteArray) : Prop := s.size ≠ 0 ∧ s.size % 256 = 0 ∧ s.size ≤ 256000
set_option maxHeartbeats 2000000 in
set_option maxRecDepth 100000 in
theorem pread_size (s : ByteArray) (w : World) (hs : ¬ (s.size ≠ 0 ∧ s.size % 256 = 0 ∧ s.size ≤ 256000)) (hb : s.size ≤ 9223372036854775807) :
    Calls Tryz.prog 20 #[.string s] w fun e w' => e = .returned (.tuple #[.string ⟨#[]⟩, .int .i64 3]) ∧ w' = w := by
  by_cases h0 : s.size = 0
  · have h0I : ((s.size : Int) == 0) = true := by simpa using (by omega : (s.size : Int) = 0)
    clear hs
    go_enter Tryz.func20, Tryz.ntmps20
    go_wp2
    go_ret2
    exact ⟨rfl, rfl⟩
  · have h0I : ((s.size : Int) == 0) = false := by simpa using (by omega : ¬ (s.size : Int) = 0)
    have htm : (s.size : Int).tmod 256 = (s.size : Int) % 256 := Int.tmod_eq_emod_of_nonneg (by omega)
    by_cases h1 : s.size % 256 = 0
    · have h1I : ((s.size : Int) % 256 != 0) = false := by simpa using (by omega : (s.size : Int) % 256 = 0)
      have h2 : (s.size : Int) > 256000 := by
        rcases Nat.lt_or_ge 256000 s.size with h | h
        · omega
        · exact absurd ⟨h0, h1, h⟩ hs
      clear hs
      go_enter Tryz.func20, Tryz.ntmps20
      go_wp2
      go_ret2
      exact ⟨rfl, rfl⟩
    · have h1I : ((s.size : Int) % 256 != 0) = true := by simpa using (by omega : ¬ (s.size : Int) % 256 = 0)
      clear hs
      go_enter Tryz.func20, Tryz.ntmps20
      go_wp2
      go_ret2
      exact ⟨rfl, rfl⟩
theorem bytes_range (s : ByteArray) (cap : Nat) (fz : Nat × Nat) (W : World) (g : Nat) (hW : W.heap[g]? = some (.cells (bytesRow s cap) 5 fz)) (a n : Nat) (h : a + n ≤ s.size) : W.rangeAt g a (valsB (byt s a n)) := by
  intro j v hv
  have hj : j < n := by
    have := (List.getElem?_eq_some_iff.1 hv).1
    simpa [valsB, byt_len] using this
  unfold valsB at hv
  rw [List.getElem?_map, byt_at s a n j hj] at hv
  simp only [Option.map_some, Option.some.injEq] at hv
  subst hv
  rw [cell_of_row W g (a + j) _ _ _ hW]
  unfold bytesRow
  have hsz : s.data.size = s.size := rfl
  rw [Array.getElem?_append_left (by simp; omega), Array.getElem?_map, Array.getElem?_eq_getElem (by omega)]
  simp only [Option.map_some]
  congr 2
  rw [List.getD_eq_getElem?_getD, Array.getElem?_toList, Array.getElem?_eq_getElem (by omega)]
  rfl
theorem valsB_cells (l : List Nat) (h : ∀ x ∈ l, x < 256) : valsB l = (l.map UInt8.ofNat).map Extern.Stop.cell := by
  unfold valsB
  rw [List.map_map]
  refine List.map_congr_left (fun x hx => ?_)
  have := h x hx
  have e : (UInt8.ofNat x).toNat = x := by simp; omega
  simp only [Function.comp, Extern.Stop.cell]
  rw [e]
  rfl
theorem ofNat_inj8 : ∀ (l m : List Nat), (∀ x ∈ l, x < 256) → (∀ x ∈ m, x < 256) → l.map UInt8.ofNat = m.map UInt8.ofNat → l = m
  | [], [], _, _, _ => rfl
  | [], _ :: _, _, _, h => by simp at h
  | _ :: _, [], _, _, h => by simp at h
  | a :: l, b :: m, h1, h2, h => by
    simp only [List.map_cons, List.cons.injEq] at h
    have ha := h1 a (by simp)
    have hb := h2 b (by simp)
    have e := congrArg UInt8.toNat h.1
    have ea : (UInt8.ofNat a).toNat = a := by simp; omega
    have eb : (UInt8.ofNat b).toNat = b := by simp; omega
    rw [ea, eb] at e
    rw [e, ofNat_inj8 l m (fun x hx => h1 x (by simp [hx])) (fun x hx => h2 x (by simp [hx])) h.2]
theorem eqPage (l m : List Nat) (hl : l.length = 256) (hm : m.length = 256) (h1 : ∀ x ∈ l, x < 256) (h2 : ∀ x ∈ m, x < 256) (w : World) :
    (Op.equalIn 10000 75 (.agg (valsB l).toArray) (.agg (valsB m).toArray)).run Tryz.prog w = .ok (decide (l = m)) w := by
  rw [valsB_cells l h1, valsB_cells m h2, run_equalIn_bytes w 9998 75 5 256 Tryz.underlying75 Tryz.underlying5 (fun w => by kernel_rfl) _ _ (by simpa using hl) (by simpa using hm)]
  have e : ((l.map UInt8.ofNat) == (m.map UInt8.ofNat)) = decide (l = m) := by
    by_cases h : l = m
    · subst h; simp
    · rw [decide_eq_false h]
      exact beq_eq_false_iff_ne.2 (fun e => h (ofNat_inj8 l m h1 h2 e))
  rw [e]
theorem byt_append (s : ByteArray) (a n m : Nat) : byt s a (n + m) = byt s a n ++ byt s (a + n) m := by
  unfold byt
  rw [List.range_add, List.map_append, List.map_map]
  congr 1
  refine List.map_congr_left (fun i _ => ?_)
  simp only [Function.comp]
  rw [Nat.add_assoc]
end Go.Proofs.YtphjbbbnbmafnabGreatDoor.G
