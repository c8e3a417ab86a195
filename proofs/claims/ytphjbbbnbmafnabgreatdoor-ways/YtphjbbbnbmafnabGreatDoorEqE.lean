/-
  The document's own small functions over graphs (trellisref): within, ahead, width, digits: what each returns, for every argument that it is called with; nothing that was there is written.
  Edges that lie in memory as a slice of Go, and rows of edges of one's own.
  What '==' of two edges is.
-/
import Derived.Test.YtphjbbbnbmafnabGreatDoorRows
import Derived.Test.YtphjbbbnbmafnabGreatDoorGMath
import Derived.Laws.BitsAllLaws
import Derived.Laws.IdiomStrings
import Derived.WalkKit
import Derived.ProofKit
import Derived.WalkLawsBesides
import Derived.WalkSpells
import Derived.Deep.QuietTactic
import Derived.BigQuiet
import Derived.Below
import Derived.BigRegion
import Derived.OwnWalk
import Derived.Deep.RegionHeld
import Derived.Laws.StructEq
import Derived.Laws.Tables
import Derived.Laws.Cover2
namespace Go.Proofs.YtphjbbbnbmafnabGreatDoor.G
open Go.RowKit

theorem cell_kept {w w' : World} (hB : Below w.heap.size w w') (p : Addr) (v : Value) (h : w.cell? p = some v) : w'.cell? p = some v := by
  rw [← h]; exact hB.cell (World.block_lt_of_cell? _ _ h)
theorem chain {w a b : World} (h1 : Below w.heap.size w a) (h2 : Below a.heap.size a b) : Below w.heap.size w b := h1.trans (h2.mono h1.size)
theorem ret1 {a b : Value} (h : a = b) : Ending.returned a = .returned b := by rw [h]

theorem below1 (w : World) (x : Obj) : Below w.heap.size w (w.alloc x) := (Below.refl _ _).alloc (Nat.le_refl _) _
theorem below2 (w : World) (x y : Obj) : Below w.heap.size w ((w.alloc x).alloc y) := ((Below.refl _ _).alloc (Nat.le_refl _) _).alloc (by simp) _
theorem two3 (w : World) (a b c d e f : Value) (t : TypeId) : ((w.alloc (.cells #[a, b, c] t)).alloc (.cells #[d, e, f] t)).cell? ⟨w.heap.size, 0, none⟩ = some a ∧ ((w.alloc (.cells #[a, b, c] t)).alloc (.cells #[d, e, f] t)).cell? ⟨w.heap.size, 1, none⟩ = some b ∧ ((w.alloc (.cells #[a, b, c] t)).alloc (.cells #[d, e, f] t)).cell? ⟨w.heap.size, 2, none⟩ = some c ∧
    ((w.alloc (.cells #[a, b, c] t)).alloc (.cells #[d, e, f] t)).cell? ⟨w.heap.size + 1, 0, none⟩ = some d ∧ ((w.alloc (.cells #[a, b, c] t)).alloc (.cells #[d, e, f] t)).cell? ⟨w.heap.size + 1, 1, none⟩ = some e ∧ ((w.alloc (.cells #[a, b, c] t)).alloc (.cells #[d, e, f] t)).cell? ⟨w.heap.size + 1, 2, none⟩ = some f := by
  have hB : Below (w.alloc (.cells #[a, b, c] t)).heap.size (w.alloc (.cells #[a, b, c] t)) ((w.alloc (.cells #[a, b, c] t)).alloc (.cells #[d, e, f] t)) := below1 _ _
  refine ⟨cell_kept hB _ _ (by simp), cell_kept hB _ _ (by simp), cell_kept hB _ _ (by simp), ?_, ?_, ?_⟩
  · have e2 : (w.alloc (.cells #[a, b, c] t)).heap.size = w.heap.size + 1 := by simp
    rw [← e2]
    generalize w.alloc (.cells #[a, b, c] t) = w2
    simp
  · have e2 : (w.alloc (.cells #[a, b, c] t)).heap.size = w.heap.size + 1 := by simp
    rw [← e2]
    generalize w.alloc (.cells #[a, b, c] t) = w2
    simp
  · have e2 : (w.alloc (.cells #[a, b, c] t)).heap.size = w.heap.size + 1 := by simp
    rw [← e2]
    generalize w.alloc (.cells #[a, b, c] t) = w2
    simp
/-- an edge is ahead of another -/
def aheadI (f l t f' l' t' : Int) : Bool := if f = f' then (if l = l' then decide (t < t') else decide (l < l')) else decide (f < f')

/-- how many bits a number has -/
def wid (n : Nat) : Nat := if n = 0 then 0 else Nat.log2 n + 1
theorem wid_half (n : Nat) (h : n ≠ 0) : wid n = wid (n / 2) + 1 := by
  unfold wid
  rw [if_neg h]
  by_cases h2 : n / 2 = 0
  · have : n = 1 := by omega
    subst this; decide
  · rw [if_neg h2]
    congr 1
    rw [Nat.log2_def, if_pos (by omega)]
theorem wid_le (n : Nat) (h : n < 2 ^ 20) : wid n ≤ 20 := by
  unfold wid
  split
  · omega
  · rename_i h0
    have := (Nat.log2_lt h0).2 h
    omega

/-! ### digits, number -/
/-- a number's lowest k bits, the highest first -/
def digs : Nat → Nat → List Bool
  | 0, _ => []
  | k + 1, n => n.testBit k :: digs k n
theorem digs_len (k n : Nat) : (digs k n).length = k := by
  induction k with
  | zero => rfl
  | succ k ih => simp [digs, ih]
/-- bits as a text of 0 and 1 -/
def txt (l : List Bool) : ByteArray := ⟨(l.map fun b => if b then (49 : UInt8) else 48).toArray⟩
theorem txt_size (l : List Bool) : (txt l).size = l.length := by simp [txt, ByteArray.size]
theorem txt_cons (b : Bool) (l : List Bool) : ({ data := #[if b then 49 else 48] } : ByteArray) ++ txt l = txt (b :: l) := by
  apply ByteArray.ext
  simp [txt]
theorem half_bit (n i : Nat) : n / 2 ^ i % 2 = (n.testBit i).toNat := by
  rw [Nat.testBit_eq_decide_div_mod_eq]
  have : n / 2 ^ i % 2 < 2 := Nat.mod_lt _ (by decide)
  rcases (show n / 2 ^ i % 2 = 0 ∨ n / 2 ^ i % 2 = 1 by omega) with e | e <;> rw [e] <;> rfl
theorem conv_one (w : World) (b : UInt8) (x : Int) (hx : x = (b.toNat : Int)) : (convert 70 9 (.slice (some ⟨w.heap.size, 0, none⟩) 1 1)).run Tryz.prog (w.alloc (.cells #[.int .u8 x] 5)) = .ok (.string ⟨#[b]⟩) (w.alloc (.cells #[.int .u8 x] 5)) := by
  subst hx
  have h := run_convert_bytes_back (P := Tryz.prog) (w.alloc (.cells #[.int .u8 (b.toNat : Int)] 5)) 70 9 5 ⟨w.heap.size, 0, none⟩ 1 [b] Tryz.underlying70 Tryz.underlying5 Tryz.underlying9 (fun j hj => by
    match j, hj with
    | 0, _ => simp [Addr.add])
  exact h

/-- the number that bits are, the highest first -/
def numOf (l : List Bool) : Nat := l.foldl (fun n b => 2 * n + b.toNat) 0
theorem numOf_snoc (l : List Bool) (b : Bool) : numOf (l ++ [b]) = 2 * numOf l + b.toNat := by unfold numOf; rw [List.foldl_append]; rfl
theorem numOf_lt (l : List Bool) : numOf l < 2 ^ l.length := by
  have : ∀ (l : List Bool) (n k : Nat), n < 2 ^ k → l.foldl (fun n b => 2 * n + b.toNat) n < 2 ^ (k + l.length) := by
    intro l
    induction l with
    | nil => intro n k h; simpa using h
    | cons b l ih =>
      intro n k h
      rw [List.foldl_cons, List.length_cons, show k + (l.length + 1) = (k + 1) + l.length by omega]
      refine ih _ _ ?_
      have := Bool.toNat_le b
      rw [Nat.pow_succ]; omega
  have h := this l 0 0 (by decide)
  simpa [numOf] using h
/-- so many bits of a text, from a place on; 0 behind the end -/
def part (s : ByteArray) (at_ size : Nat) : List Bool := (List.range size).map fun i => s.data.toList[at_ + i]? == some 49
theorem part_succ (s : ByteArray) (a k : Nat) : part s a (k + 1) = part s a k ++ [s.data.toList[a + k]? == some 49] := by
  unfold part; rw [List.range_succ]; simp
theorem part_len (s : ByteArray) (a k : Nat) : (part s a k).length = k := by simp [part]
theorem at_k (s : ByteArray) (k : Nat) (h : k < s.size) : s.data.toList[k]? = some s[k] := by
  rw [Array.getElem?_toList, Array.getElem?_eq_getElem h]; rfl
theorem one_at (s : ByteArray) (k : Nat) (h : k < s.size) : (s.data.toList[k]? == some 49) = ((s[k].toNat : Int) == 49) := by
  rw [at_k s k h]
  have e : (some s[k] == some (49 : UInt8)) = (s[k] == 49) := rfl
  rw [e]
  by_cases hc : s[k] = 49
  · rw [hc]; rfl
  · have h1 : (s[k] == 49) = false := by simpa using hc
    have h2 : ((s[k].toNat : Int) == 49) = false := by
      rw [beq_eq_false_iff_ne]
      intro e2
      apply hc
      exact UInt8.toNat_inj.1 (by have : (49 : UInt8).toNat = 49 := rfl; omega)
    rw [h1, h2]
end Go.Proofs.YtphjbbbnbmafnabGreatDoor.G

namespace Go.Proofs.YtphjbbbnbmafnabGreatDoor.G
open Go.RowKit

/-- an edge: from, label, to -/
abbrev E3 := Int × Int × Int
def flat (l : List E3) : List Value := l.flatMap fun e => [.int .i64 e.1, .int .i64 e.2.1, .int .i64 e.2.2]
theorem flat_len (l : List E3) : (flat l).length = l.length * 3 := by
  induction l with
  | nil => rfl
  | cons e l ih => unfold flat at *; rw [List.flatMap_cons, List.length_append, ih]; simp; omega
theorem flat_snoc (l : List E3) (e : E3) : flat (l ++ [e]) = flat l ++ [.int .i64 e.1, .int .i64 e.2.1, .int .i64 e.2.2] := by unfold flat; simp
/-- a slice of edges in memory -/
def EdgesAt (w : World) (v : Value) (l : List E3) : Prop :=
  ∃ a0 cap, v = .slice a0 l.length cap ∧ ∀ (j : Nat) (e : E3), l[j]? = some e → ∃ g off, a0 = some ⟨g, off, none⟩ ∧ w.cell? ⟨g, off + j * 3, none⟩ = some (.int .i64 e.1) ∧ w.cell? ⟨g, off + j * 3 + 1, none⟩ = some (.int .i64 e.2.1) ∧ w.cell? ⟨g, off + j * 3 + 2, none⟩ = some (.int .i64 e.2.2)
theorem EdgesAt.below {w w' : World} {v : Value} {l : List E3} (h : EdgesAt w v l) (hB : Below w.heap.size w w') : EdgesAt w' v l := by
  obtain ⟨a0, cap, hv, h⟩ := h
  refine ⟨a0, cap, hv, fun j e hj => ?_⟩
  obtain ⟨g, off, h1, h2, h3, h4⟩ := h j e hj
  exact ⟨g, off, h1, cell_kept hB _ _ h2, cell_kept hB _ _ h3, cell_kept hB _ _ h4⟩
theorem Tryz.infoE : (Tryz.prog.info? 41).map (fun i => (i.zero, i.size, i.bytes)) = some (some (.agg #[.int .i64 0, .int .i64 0, .int .i64 0]), 3, 24) := by kernel_rfl
/-- a row of edges of one's own -/
def OwnE (w wr : World) (v : Value) (l : List E3) : Prop := wr.ownsRow w.heap.size 41 3 v l.length (flat l) ∧ Below w.heap.size w wr
theorem ownE_snoc {w wr w2 : World} {v v' : Value} {l : List E3} {e : E3} {o : Obj} (h : OwnE w wr v l) (hown : w2.ownsRow w.heap.size 41 3 v' (l.length + 1) (flat l ++ [.int .i64 e.1, .int .i64 e.2.1, .int .i64 e.2.2])) (hg : (wr.alloc o).grownBy w2 v.ownBlock) : OwnE w w2 v' (l ++ [e]) := by
  refine ⟨by rw [flat_snoc, List.length_append]; exact hown, ?_⟩
  exact (h.2.alloc h.2.size o).grown hg (by have := h.2.size; simp; omega) (fun j hj => (h.1.lt j hj).1)
theorem src3 (w : World) (a b c : Value) (t : TypeId) (j : Nat) (u : Value) (hj : [a, b, c][j]? = some u) : (w.alloc (.cells #[a, b, c] t)).cell? ((⟨w.heap.size, 0, none⟩ : Addr).add j) = some u := by
  match j, hj with
  | 0, hj => simp at hj; subst hj; simp [Addr.add]
  | 1, hj => simp at hj; subst hj; simp [Addr.add]
  | 2, hj => simp at hj; subst hj; simp [Addr.add]
  | j + 3, hj => simp at hj
theorem one3 (a b c : Int) (u : Value) (hu : u ∈ [Value.int .i64 a, .int .i64 b, .int .i64 c]) : u.oneCell' = true := by
  simp at hu
  rcases hu with rfl | rfl | rfl <;> rfl
theorem le_alloc3 {B : Nat} {w : World} {o : Obj} (h : B ≤ w.heap.size) : B ≤ (w.alloc o).heap.size := by simp; omega
theorem take_filter {p : E3 → Bool} {l : List E3} {k : Nat} {e : E3} (h : l[k]? = some e) : (l.take (k + 1)).filter p = (l.take k).filter p ++ (if p e then [e] else []) := by
  rw [List.take_add_one, h, List.filter_append]
  congr 1
  simp only [Option.toList_some, List.filter_cons, List.filter_nil]

end Go.Proofs.YtphjbbbnbmafnabGreatDoor.G

namespace Go.Proofs.YtphjbbbnbmafnabGreatDoor.G
open Go.RowKit

theorem eqE (a b c d e f : Int) (w : World) : (Op.equalIn 10000 41 (.agg #[.int .i64 a, .int .i64 b, .int .i64 c]) (.agg #[.int .i64 d, .int .i64 e, .int .i64 f])).run Tryz.prog w = .ok (decide ((a, b, c) = (d, e, f))) w := by
  have u3 := Tryz.underlying3
  have hS : Tryz.prog.underlying 41 = some (.struct (Tryz.prog.fieldsOf 41)) := by kernel_rfl
  rw [show (10000 : Nat) = 9999 + 1 from rfl, run_equalIn_agg w 9999 41 _ _ hS (by kernel_rfl)]
  simp only [Program.fieldsOf, Tryz.underlying41]
  go_simp
  by_cases h1 : a = d <;> by_cases h2 : b = e <;> by_cases h3 : c = f <;> simp [h1, h2, h3]
theorem eqlE (a b c d e f : Int) (x : Bool) (hx : decide ((a, b, c) = (d, e, f)) = x) (w : World) : (Op.equalIn 10000 41 (.agg #[.int .i64 a, .int .i64 b, .int .i64 c]) (.agg #[.int .i64 d, .int .i64 e, .int .i64 f])).run Tryz.prog w = .ok x w := by
  rw [eqE, hx]
theorem guardE : Tryz.prog.eqGuardType Tryz.prog.depth 41 = false := by kernel_rfl
end Go.Proofs.YtphjbbbnbmafnabGreatDoor.G
