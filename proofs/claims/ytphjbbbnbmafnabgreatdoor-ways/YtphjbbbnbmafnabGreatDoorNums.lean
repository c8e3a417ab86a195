/-
  A list of numbers that lies in memory as a slice of Go, and the words of bits that are made of one; what stays of it where memory is new. No condition.
-/
import Derived.Test.YtphjbbbnbmafnabGreatDoorNew
import Derived.Test.YtphjbbbnbmafnabGreatDoorBel
namespace Go.Proofs.YtphjbbbnbmafnabGreatDoor
open Go.RowKit

/-- a slice in memory that reads as the list l of numbers of kind K -/
def NumsAt (K : IntKind) (w : World) (v : Value) (l : List Nat) : Prop :=
  ∃ a0 cap, v = .slice a0 l.length cap ∧ (l.length = 0 ∨ ∃ g off, a0 = some ⟨g, off, none⟩ ∧ ∀ (j x : Nat), l[j]? = some x → w.cell? ⟨g, off + j, none⟩ = some (.int K (x : Int)))
theorem NumsAt.kept {K : IntKind} {w w' : World} {v : Value} {l : List Nat} (h : NumsAt K w v l) (hk : ∀ p v, w.cell? p = some v → w'.cell? p = some v) : NumsAt K w' v l := by
  obtain ⟨a0, cap, hv, h⟩ := h
  refine ⟨a0, cap, hv, ?_⟩
  rcases h with h | ⟨g, off, hg, hc⟩
  · exact .inl h
  · exact .inr ⟨g, off, hg, fun j x hj => hk _ _ (hc j x hj)⟩
theorem NumsAt.below {K : IntKind} {w w' : World} {v : Value} {l : List Nat} (h : NumsAt K w v l) (hB : Below w.heap.size w w') : NumsAt K w' v l := h.kept (cell_kept hB)
def vals (K : IntKind) (l : List Nat) : List Value := l.map fun (x : Nat) => Value.int K (x : Int)
theorem vals_len (K : IntKind) (l : List Nat) : (vals K l).length = l.length := by simp [vals]
theorem vals_snoc (K : IntKind) (l : List Nat) (x : Nat) : vals K (l ++ [x]) = vals K l ++ [.int K (x : Int)] := by simp [vals]
theorem nums_own {K : IntKind} {w : World} {B : Nat} {e : TypeId} {v : Value} {l : List Nat} (h : w.ownsRow B e 1 v l.length (vals K l)) : NumsAt K w v l := by
  rcases h.2 with ⟨rfl, h0⟩ | ⟨g, cap, cur, rfl, _⟩
  · exact ⟨none, 0, by rw [h0], .inl h0⟩
  · refine ⟨_, cap, rfl, .inr ⟨g, 0, rfl, fun j x hj => ?_⟩⟩
    have hjl : j < l.length := by
      rcases Nat.lt_or_ge j l.length with e | e
      · exact e
      · rw [List.getElem?_eq_none e] at hj; cases hj
    rw [Nat.zero_add, h.cellAt j (by omega)]
    unfold vals
    rw [List.getElem?_map, hj]; rfl
theorem NumsAt.open {K : IntKind} {w : World} {v : Value} {l : List Nat} (h : NumsAt K w v l) : ∃ a0 cap, v = .slice a0 l.length cap ∧ ∀ (k x : Nat), l[k]? = some x → ∃ g off, a0 = some ⟨g, off, none⟩ ∧ w.cell? ⟨g, off + k, none⟩ = some (.int K (x : Int)) := by
  obtain ⟨a0, cap, hv, h⟩ := h
  refine ⟨a0, cap, hv, fun k x hk => ?_⟩
  rcases h with h | ⟨g, off, hg, hc⟩
  · rw [List.getElem?_eq_none (by omega)] at hk; cases hk
  · exact ⟨g, off, hg, hc k x hk⟩
theorem some_at' {l : List Nat} {k : Nat} (h : k < l.length) : ∃ x, l[k]? = some x := ⟨l[k], List.getElem?_eq_getElem h⟩

/-! ### words of bits -/
theorem word_cell {f : Nat → Bool} {wr : World} {B n k : Nat} {xs : List Value} (hlt : k < n) (hown : wr.ownsRow B 112 1 (.slice (some ⟨B, 0, none⟩) (n / 64 + 1) (n / 64 + 1)) (n / 64 + 1) xs) (hwo : Words f (n / 64 + 1) k xs) :
    ∃ X : Nat, wr.cell? ⟨B, k / 64, none⟩ = some (.int .u64 (X : Int)) ∧ wr.frozen? ⟨B, k / 64, none⟩ = false ∧ Hid (X = wordOf (upto f k) (k / 64) 64) :=
  ⟨_, (hown.cellAt (k / 64) (by omega)).trans (hwo.2 (k / 64) (by omega)), hown.frozenAt (k / 64), (rfl : _ = _)⟩
/-- the row of words, the first k bits told -/
def RelW (f : Nat → Bool) (n : Nat) (w : World) (c : Value) (wr : World) : Prop := ∃ (k : Nat) (xs : List Value), k ≤ n ∧ c = .int .i64 k ∧ wr.ownsRow w.heap.size 112 1 (.slice (some ⟨w.heap.size, 0, none⟩) (n / 64 + 1) (n / 64 + 1)) (n / 64 + 1) xs ∧ Below w.heap.size w wr ∧ Words f (n / 64 + 1) k xs
theorem relw_set {f : Nat → Bool} {n : Nat} {w wr : World} {k X : Nat} {xs : List Value} (hlt : k < n) (hf : f k = true) (hown : wr.ownsRow w.heap.size 112 1 (.slice (some ⟨w.heap.size, 0, none⟩) (n / 64 + 1) (n / 64 + 1)) (n / 64 + 1) xs)
    (hwo : Words f (n / 64 + 1) k xs) (hbel : Below w.heap.size w wr) (hX : X = wordOf (upto f k) (k / 64) 64) :
    RelW f n w (.int .i64 ((k : Int) + 1)) (wr.setCell { block := w.heap.size, off := k / 64 } (Value.int IntKind.u64 (bits BinOp.or IntKind.u64 (X : Int) (IntKind.u64.wrap (2 ^ (k % 64)))))).drew := by
  have hx : X < 18446744073709551616 := by rw [hX]; exact wordOf_64 _ _
  have hu := or_int X (k % 64) hx (by omega)
  have hst := (hown.stored (k / 64) (.int .u64 (bits BinOp.or IntKind.u64 (X : Int) (IntKind.u64.wrap (2 ^ (k % 64)))))).1
  have hws := words_set hwo hf (bits BinOp.or IntKind.u64 (X : Int) (IntKind.u64.wrap (2 ^ (k % 64)))) (by rw [hu, ← hX])
  exact ⟨k + 1, _, by omega, by go_num, hst.drew, (hbel.setCell (Nat.le_refl _) _).drew, hws⟩
theorem bow_of {f : Nat → Bool} {n : Nat} {w wr : World} {xs : List Value} (hs : n ≤ 100000) (hout : ∀ i, n ≤ i → f i = false) (hown : wr.ownsRow w.heap.size 112 1 (.slice (some ⟨w.heap.size, 0, none⟩) (n / 64 + 1) (n / 64 + 1)) (n / 64 + 1) xs) (hwo : Words f (n / 64 + 1) n xs) :
    Calls Tryz.prog 74 #[.slice (some ⟨w.heap.size, 0, none⟩) (n / 64 + 1) (n / 64 + 1), .int .i64 (n : Int)] wr fun e w' => ∃ b ba, e = .returned (.pointer (some ⟨b, 0, none⟩)) ∧ BitsAt w' b w.heap.size ba f n (fun j => wordOf f j 64) ∧ Below wr.heap.size wr w' := by
  refine bow_any w.heap.size n f (fun j => wordOf f j 64) hs ?_ (fun j => wordOf_64 _ _) ?_ hout
  · intro j hj
    rw [hown.cellAt j (by omega), hwo.2 j hj]
    have e : wordOf (upto f n) j 64 = wordOf f j 64 := wordOf_congr fun i _ => by
      unfold upto
      by_cases e : 64 * j + i < n
      · simp [e]
      · rw [hout _ (by omega)]; rfl
    rw [e]
  · intro j i hi
    show (wordOf f j 64).testBit i = _
    rw [wordOf_bit]; simp [hi]
end Go.Proofs.YtphjbbbnbmafnabGreatDoor
