/-
  A graph as bits and as pages, without the program: the numbers, the ones and zeros of where edges are from, the labels, where they go to. No condition.
-/
import Derived.Test.YtphjbbbnbmafnabGreatDoorRefPages
import Derived.Test.YtphjbbbnbmafnabGreatDoorGMath
namespace Go.Proofs.YtphjbbbnbmafnabGreatDoor.G
open Go.RowKit Gm

/-- for each of the first n nodes as many ones as edges are from it, and a 0 -/
def srcs (l : List Gm.E3) : Nat → List Bool
  | 0 => []
  | u + 1 => srcs l u ++ (List.replicate (ah l (u + 1) - ah l u) true ++ [false])
theorem srcs_len (l : List Gm.E3) (h : ah l 0 = 0) (u : Nat) : (srcs l u).length = ah l u + u := by
  induction u with
  | zero => rw [h]; rfl
  | succ u ih =>
    have := ah_mono l (show u ≤ u + 1 by omega)
    show (srcs l u ++ _).length = _
    rw [List.length_append, ih]
    simp
    omega
/-- numbers in so many bits each, one behind the other -/
def nums (k : Nat) (l : List Nat) : List Bool := l.flatMap (digs k)
theorem nums_len (k : Nat) (l : List Nat) : (nums k l).length = k * l.length := by
  induction l with
  | nil => rfl
  | cons a l ih => unfold nums at *; rw [List.flatMap_cons, List.length_append, ih, digs_len, List.length_cons, Nat.mul_add]; omega
theorem nums_snoc (k : Nat) (l : List Nat) (a : Nat) : nums k (l ++ [a]) = nums k l ++ digs k a := by unfold nums; simp
def labs (l : List Gm.E3) : List Nat := l.map fun e => e.2.1.toNat
def tos (l : List Gm.E3) : List Nat := l.map fun e => e.2.2.toNat
/-- a graph as bits; its edges are in order -/
def gbits (n s : Nat) (l : List Gm.E3) : List Bool :=
  digs 14 n ++ digs 5 s ++ digs 15 l.length ++ srcs l n ++ nums (wid (s - 1)) (labs l) ++ nums (wid (n - 1)) (tos l)
theorem gbits_len (n s : Nat) (l : List Gm.E3) (h0 : ah l 0 = 0) (hn : ah l n = l.length) : (gbits n s l).length = 34 + n + l.length + wid (s - 1) * l.length + wid (n - 1) * l.length := by
  unfold gbits
  simp only [List.length_append, digs_len, nums_len, srcs_len l h0, hn, labs, tos, List.length_map]
  omega
/-- how many pages so many bits take -/
def npages (k : Nat) : Nat := (k + 2015) / 2016
/-- bytes as a string -/
def str (l : List Nat) : ByteArray := ⟨(l.map UInt8.ofNat).toArray⟩
theorem str_size (l : List Nat) : (str l).size = l.length := by simp [str, ByteArray.size]
/-- bits as pages: 0 behind the end -/
def image (l : List Bool) : ByteArray := str (pagesB l (npages l.length))
theorem image_size (l : List Bool) : (image l).size = 256 * npages l.length := by
  unfold image; rw [str_size, pagesB_len]
/-- what Build gives -/
def built (n s : Nat) (l : List Gm.E3) : ByteArray := image (gbits n s (ordE l))
/-- 0 behind the end changes no page -/
theorem sub_pad (l m : List Bool) (a k : Nat) (h : ∀ i, l.getD i false = m.getD i false) : sub l a k = sub m a k := by
  unfold sub
  exact List.map_congr_left (fun i _ => h _)
theorem pagesB_pad (l m : List Bool) (n : Nat) (h : ∀ i, l.getD i false = m.getD i false) : pagesB l n = pagesB m n := by
  have hp : ∀ p i, pageB l p i = pageB m p i := fun p i => by
    unfold pageB
    exact List.map_congr_left (fun k _ => by rw [sub_pad l m _ _ h])
  have hw : ∀ p, whole l p = whole m p := fun p => by unfold whole; rw [hp]
  unfold pagesB
  rw [show whole l = whole m from funext hw]
theorem pad_getD (l : List Bool) (k i : Nat) : (l ++ List.replicate k false).getD i false = l.getD i false := by
  simp only [List.getD_eq_getElem?_getD]
  by_cases h : i < l.length
  · rw [List.getElem?_append_left h]
  · rw [List.getElem?_append_right (by omega), List.getElem?_eq_none (by omega : l.length ≤ i), List.getElem?_replicate]
    split <;> rfl
end Go.Proofs.YtphjbbbnbmafnabGreatDoor.G
