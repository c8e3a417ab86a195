/-
  The document's own sum of a page (trellisref.sum) over a row of bytes that lies in memory: it is the sum that the text Crc speaks of; nothing that was there is written.
  The document's own pages (trellisref.pages): bits, told as a text of 0 and 1, as bytes: pages of 252 bytes, each with its sum behind it; nothing that was there is written. The text is at least one page long and at most a thousand.
-/
import Derived.Test.YtphjbbbnbmafnabGreatDoorRefG
import Derived.OwnWalk
namespace Go.Proofs.YtphjbbbnbmafnabGreatDoor.G
open Go.RowKit

theorem i64_xor_nat (a b : Nat) (ha : a < 9223372036854775808) (hb : b < 9223372036854775808) : bits .xor .i64 (a : Int) (b : Int) = ((a ^^^ b : Nat) : Int) := by
  have hx : a ^^^ b < 2 ^ 63 := Nat.xor_lt_two_pow (by omega) (by omega)
  show IntKind.i64.wrap ((BitVec.ofInt 64 (a : Int) ^^^ BitVec.ofInt 64 (b : Int)).toNat : Int) = _
  rw [BitVec.toNat_xor]
  have e1 : (BitVec.ofInt 64 (a : Int)).toNat = a := by simp; omega
  have e2 : (BitVec.ofInt 64 (b : Int)).toNat = b := by simp; omega
  rw [e1, e2, IntKind.wrap_i64]
  omega
theorem shift_big {c : Nat} (h1 : 2147483648 ≤ c) (h2 : c < 4294967296) : Crc.shift c = (2 * c - 4294967296) ^^^ Crc.poly := by
  unfold Crc.shift
  have hb : c.testBit 31 = true := by
    rw [Nat.testBit_eq_decide_div_mod_eq]
    have : c / 2 ^ 31 = 1 := by omega
    rw [this]; rfl
  rw [hb, if_pos rfl, show 2 * c % 4294967296 = 2 * c - 4294967296 by omega]
theorem shift_small {c : Nat} (h : c < 2147483648) : Crc.shift c = 2 * c := by
  unfold Crc.shift
  have hb : c.testBit 31 = false := Nat.testBit_lt_two_pow (by omega)
  rw [hb, if_neg (by decide), Nat.xor_zero]; omega
/-- a row of bytes in memory -/
def RowB (w : World) (v : Value) (l : List Nat) : Prop := ∃ g off cap, v = .slice (some ⟨g, off, none⟩) l.length cap ∧ ∀ (j x : Nat), l[j]? = some x → w.cell? ⟨g, off + j, none⟩ = some (.int .u8 (x : Int))
def valsB (l : List Nat) : List Value := l.map fun (x : Nat) => Value.int .u8 (x : Int)
theorem Tryz.infoB : (Tryz.prog.info? 5).map (fun i => (i.zero, i.size, i.bytes)) = some (some (.int .u8 0), 1, 1) := by kernel_rfl
theorem addr_add (b off i : Nat) : (⟨b, off, none⟩ : Addr).add i = ⟨b, off + i, none⟩ := by
  by_cases e : i = 0
  · subst e; simp [Addr.add]
  · simp [Addr.add, e]
/-- the four bytes of the page's number, as the code reckons them -/
theorem four_own (w : World) (a b c d : Value) (t : TypeId) : (w.alloc (.cells #[a, b, c, d] t)).ownsRow w.heap.size t 1 (.slice (some ⟨w.heap.size, 0, none⟩) 4 4) 4 [a, b, c, d] := by
  refine ⟨rfl, .inr ⟨w.heap.size, 4, #[a, b, c, d], rfl, Nat.le_refl _, ?_, Nat.le_refl _, by decide, rfl, rfl⟩⟩
  show (w.heap.push _)[w.heap.size]? = _
  simp

theorem vals_cell {w w' : World} {g off : Nat} {l : List Nat} (hc : ∀ (j x : Nat), l[j]? = some x → w.cell? ⟨g, off + j, none⟩ = some (.int .u8 (x : Int))) (hB : Below w.heap.size w w') (j : Nat) (u : Value) (h : (valsB l)[j]? = some u) : w'.cell? ((⟨g, off, none⟩ : Addr).add j) = some u := by
  unfold valsB at h
  rw [List.getElem?_map] at h
  cases hx : l[j]? with
  | none => rw [hx] at h; cases h
  | some x =>
    rw [hx] at h
    simp at h
    rw [addr_add, ← h]
    exact cell_kept hB _ _ (hc j x hx)
theorem vals_one (l : List Nat) (u : Value) (h : u ∈ valsB l) : u.oneCell' = true := by
  unfold valsB at h
  obtain ⟨x, _, rfl⟩ := List.mem_map.1 h
  rfl
theorem le_alloc {B : Nat} {w : World} {o : Obj} (h : B ≤ w.heap.size) : B ≤ (w.alloc o).heap.size := by simp; omega
theorem be4_vals (p : Nat) (hp : p ≤ 1000) : [Value.int .u8 ((p : Int) / 16777216), .int .u8 ((p : Int) / 65536), .int .u8 ((p : Int) / 256), .int .u8 ((p : Int) % 256)] = valsB (Crc.be4 p) := by
  unfold valsB Crc.be4
  simp only [List.map_cons, List.map_nil]
  rw [show ((p / 16777216 % 256 : Nat) : Int) = (p : Int) / 16777216 by omega, show ((p / 65536 % 256 : Nat) : Int) = (p : Int) / 65536 by omega, show ((p / 256 % 256 : Nat) : Int) = (p : Int) / 256 by omega, show ((p % 256 : Nat) : Int) = (p : Int) % 256 by omega]
theorem crc_snoc (c : Nat) (l : List Nat) (x : Nat) : Crc.crc c (l ++ [x]) = Crc.feed (Crc.crc c l) x := by rw [Crc.crc_append]; rfl
theorem crc_take {c : Nat} {l : List Nat} {k x : Nat} (h : l[k]? = some x) : Crc.crc c (l.take (k + 1)) = Crc.feed (Crc.crc c (l.take k)) x := by
  rw [List.take_add_one, h, Option.toList_some, crc_snoc]
theorem shifts_succ (k c : Nat) : Crc.shifts (k + 1) c = Crc.shift (Crc.shifts k c) := by
  induction k generalizing c with
  | zero => rfl
  | succ k ih =>
    have e : Crc.shifts (k + 1 + 1) c = Crc.shifts (k + 1) (Crc.shift c) := rfl
    rw [e, ih]; rfl
theorem shifts_lt (k c : Nat) (h : c < 4294967296) : Crc.shifts k c < 4294967296 := by
  cases k with
  | zero => exact h
  | succ k => rw [shifts_succ]; exact Crc.shift_lt _

end Go.Proofs.YtphjbbbnbmafnabGreatDoor.G

namespace Go.Proofs.YtphjbbbnbmafnabGreatDoor.G
open Go.RowKit

/-- so many bits of a list, from a place on -/
def sub (l : List Bool) (a k : Nat) : List Bool := (List.range k).map fun i => l.getD (a + i) false
theorem sub_succ (l : List Bool) (a k : Nat) : sub l a (k + 1) = sub l a k ++ [l.getD (a + k) false] := by unfold sub; rw [List.range_succ]; simp
theorem sub_len (l : List Bool) (a k : Nat) : (sub l a k).length = k := by simp [sub]
/-- the first i bytes of page p -/
def pageB (l : List Bool) (p i : Nat) : List Nat := (List.range i).map fun k => numOf (sub l (2016 * p + 8 * k) 8)
theorem pageB_succ (l : List Bool) (p i : Nat) : pageB l p (i + 1) = pageB l p i ++ [numOf (sub l (2016 * p + 8 * i) 8)] := by unfold pageB; rw [List.range_succ]; simp
theorem pageB_len (l : List Bool) (p i : Nat) : (pageB l p i).length = i := by simp [pageB]
theorem byte_lt (l : List Bool) (a : Nat) : numOf (sub l a 8) < 256 := by
  have := numOf_lt (sub l a 8)
  rw [sub_len] at this
  exact this
theorem pageB_lt (l : List Bool) (p i x : Nat) (h : x ∈ pageB l p i) : x < 256 := by
  unfold pageB at h
  obtain ⟨k, _, rfl⟩ := List.mem_map.1 h
  exact byte_lt _ _
/-- a page and its sum -/
def whole (l : List Bool) (p : Nat) : List Nat := pageB l p 252 ++ Crc.be4 (Crc.sumOf p (pageB l p 252))
/-- the first n pages -/
def pagesB (l : List Bool) (n : Nat) : List Nat := (List.range n).flatMap (whole l)
theorem pagesB_succ (l : List Bool) (n : Nat) : pagesB l (n + 1) = pagesB l n ++ whole l n := by unfold pagesB; rw [List.range_succ]; simp
theorem pagesB_len (l : List Bool) (n : Nat) : (pagesB l n).length = 256 * n := by
  induction n with
  | zero => rfl
  | succ n ih => rw [pagesB_succ, List.length_append, ih]; unfold whole; rw [List.length_append, pageB_len]; simp [Crc.be4]; omega
theorem whole_lt (l : List Bool) (p x : Nat) (h : x ∈ whole l p) : x < 256 := by
  unfold whole at h
  rcases List.mem_append.1 h with h | h
  · exact pageB_lt _ _ _ _ h
  · simp [Crc.be4] at h; omega
theorem pagesB_lt (l : List Bool) (n x : Nat) (h : x ∈ pagesB l n) : x < 256 := by
  unfold pagesB at h
  obtain ⟨p, _, hp⟩ := List.mem_flatMap.1 h
  exact whole_lt _ _ _ hp
theorem txt_at (l : List Bool) (i : Nat) (h : i < (txt l).size) : ((txt l)[i].toNat : Int) = 48 + ((l.getD i false).toNat : Int) := by
  have h' := h
  rw [txt_size] at h'
  have a := at_k (txt l) i h
  have e : (txt l).data.toList[i]? = some (if l[i] then 49 else 48) := by simp [txt, h']
  rw [e] at a
  simp only [Option.some.injEq] at a
  rw [← a, List.getD_eq_getElem?_getD, List.getElem?_eq_getElem h']
  cases l[i] <;> rfl
theorem own_below {w w' : World} {B : Nat} {e : TypeId} {v : Value} {n : Nat} {xs : List Value} (h : w.ownsRow B e 1 v n xs) (hB : Below w.heap.size w w') : w'.ownsRow B e 1 v n xs := by
  refine ⟨h.1, ?_⟩
  rcases h.2 with h0 | ⟨g, cap, cur, hv, hb, hg, r⟩
  · exact .inl h0
  · refine .inr ⟨g, cap, cur, hv, hb, ?_, r⟩
    rw [hB.block g (by
      rcases Nat.lt_or_ge g w.heap.size with h | h
      · exact h
      · rw [Array.getElem?_eq_none h] at hg; cases hg)]
    exact hg
/-- a row of bytes of one's own, from block B on -/
def OwnB (w : World) (wr : World) (v : Value) (l : List Nat) : Prop := wr.ownsRow w.heap.size 5 1 v l.length (valsB l) ∧ Below w.heap.size w wr
theorem valsB_append (l m : List Nat) : valsB (l ++ m) = valsB l ++ valsB m := by simp [valsB]
theorem ownB_more {w wr w2 : World} {v v' : Value} {l m : List Nat} {o : Obj} (h : OwnB w wr v l) (hown : w2.ownsRow w.heap.size 5 1 v' (l.length + m.length) (valsB l ++ valsB m)) (hg : (wr.alloc o).grownBy w2 v.ownBlock) : OwnB w w2 v' (l ++ m) := by
  refine ⟨by rw [valsB_append, List.length_append]; exact hown, ?_⟩
  exact (h.2.alloc h.2.size o).grown hg (by have := h.2.size; simp; omega) (fun j hj => (h.1.lt j hj).1)
theorem ownB_more' {w wr w2 : World} {v v' : Value} {l m : List Nat} (h : OwnB w wr v l) (hown : w2.ownsRow w.heap.size 5 1 v' (l.length + m.length) (valsB l ++ valsB m)) (hg : wr.grownBy w2 v.ownBlock) : OwnB w w2 v' (l ++ m) := by
  refine ⟨by rw [valsB_append, List.length_append]; exact hown, ?_⟩
  exact h.2.grown hg h.2.size (fun j hj => (h.1.lt j hj).1)
theorem row_own {w wr : World} {v : Value} {l : List Nat} (h : OwnB w wr v l) (hl : l ≠ []) : RowB wr v l := by
  rcases h.1.2 with ⟨_, h0⟩ | ⟨g, cap, cur, rfl, _⟩
  · exact absurd (List.length_eq_zero_iff.1 h0) hl
  · refine ⟨g, 0, cap, rfl, fun j x hj => ?_⟩
    have hjl : j < l.length := by
      rcases Nat.lt_or_ge j l.length with e | e
      · exact e
      · rw [List.getElem?_eq_none e] at hj; cases hj
    rw [Nat.zero_add, h.1.cellAt j (by omega)]
    unfold valsB
    rw [List.getElem?_map, hj]; rfl
theorem src_one (w : World) (x : Nat) (t : TypeId) (j : Nat) (u : Value) (hj : (valsB [x])[j]? = some u) : (w.alloc (.cells #[.int .u8 (x : Int)] t)).cell? ((⟨w.heap.size, 0, none⟩ : Addr).add j) = some u := by
  match j, hj with
  | 0, hj => simp [valsB] at hj; subst hj; simp [Addr.add]

theorem src_four (w : World) (a b c d : Value) (t : TypeId) (j : Nat) (u : Value) (hj : [a, b, c, d][j]? = some u) : (w.alloc (.cells #[a, b, c, d] t)).cell? ((⟨w.heap.size, 0, none⟩ : Addr).add j) = some u := by
  match j, hj with
  | 0, hj => simp at hj; subst hj; simp [Addr.add]
  | 1, hj => simp at hj; subst hj; simp [Addr.add]
  | 2, hj => simp at hj; subst hj; simp [Addr.add]
  | 3, hj => simp at hj; subst hj; simp [Addr.add]
  | j + 4, hj => simp at hj
theorem four_one (a b c d : Int) (u : Value) (hu : u ∈ [Value.int .u8 a, .int .u8 b, .int .u8 c, .int .u8 d]) : u.oneCell' = true := by
  simp at hu
  rcases hu with rfl | rfl | rfl | rfl <;> rfl
theorem be4_sum (S : Nat) (h : S < 4294967296) : [Value.int .u8 ((S : Int) / 16777216), .int .u8 ((S : Int) / 65536 % 256), .int .u8 ((S : Int) / 256 % 256), .int .u8 ((S : Int) % 256)] = valsB (Crc.be4 S) := by
  unfold valsB Crc.be4
  simp only [List.map_cons, List.map_nil]
  rw [show ((S / 16777216 % 256 : Nat) : Int) = (S : Int) / 16777216 by omega, show ((S / 65536 % 256 : Nat) : Int) = (S : Int) / 65536 % 256 by omega, show ((S / 256 % 256 : Nat) : Int) = (S : Int) / 256 % 256 by omega, show ((S % 256 : Nat) : Int) = (S : Int) % 256 by omega]

theorem conv_row {w wr : World} {v : Value} {l : List Nat} (h : OwnB w wr v l) (hl : 0 < l.length) (hb : ∀ x, x ∈ l → x < 256) :
    ∃ g off cap, v = .slice (some ⟨g, off, none⟩) l.length cap ∧ (convert 70 9 (.slice (some ⟨g, off, none⟩) l.length cap)).run Tryz.prog wr = .ok (.string ⟨(l.map UInt8.ofNat).toArray⟩) wr := by
  obtain ⟨g, off, cap, hv, hc⟩ := row_own h (by intro e; rw [e] at hl; exact absurd hl (by decide))
  refine ⟨g, off, cap, hv, ?_⟩
  have := run_convert_bytes_back (P := Tryz.prog) wr 70 9 5 ⟨g, off, none⟩ cap (l.map UInt8.ofNat) Tryz.underlying70 Tryz.underlying5 Tryz.underlying9 (fun j hj => by
    have hjl : j < l.length := by simpa using hj
    rw [addr_add, hc j l[j] (List.getElem?_eq_getElem hjl)]
    have hx := hb l[j] (List.getElem_mem hjl)
    simp only [List.getElem_map]
    congr 2
    have : (UInt8.ofNat l[j]).toNat = l[j] := by simp; omega
    rw [this])
  rw [List.length_map] at this
  exact this

end Go.Proofs.YtphjbbbnbmafnabGreatDoor.G
