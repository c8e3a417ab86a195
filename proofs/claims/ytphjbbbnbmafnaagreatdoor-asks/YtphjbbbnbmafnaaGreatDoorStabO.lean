/-
  slices' swapRange and rotate over a block of edges: two stretches change places; nothing else is written.
  slices' insertionSort over a block of edges, by compareLabels: a stretch that was in order is then ordered by labels, what is the same staying as it was; nothing else is written.
  slices' symMerge over a block of edges, by compareLabels, where one side is a single edge: it is put in its place; nothing else is written.
  slices' symMerge over a block of edges, by compareLabels, where the right side is a single edge: it is put in its place; nothing else is written.
  slices' symMerge over a block of edges, by compareLabels, where both sides have two and more: the sides are parted and turned, and each half is merged; nothing else is written.
  slices' symMerge, stable and SortStableFunc over edges, by compareLabels: a row of one's own that was in order is then ordered by labels, what is the same staying as it was; nothing else is written.
  slices.SortStableFunc over a row of edges of one's own, by compareLabels: ordered by labels, what is the same staying as it was; nothing else is written.
-/
import Derived.Test.YtphjbbbnbmafnaaGreatDoorComp
import Derived.BigQuiet
import Derived.BigRegion
import Derived.Test.YtphjbbbnbmafnaaGreatDoorGMath
import Derived.Test.YtphjbbbnbmafnaaGreatDoorSortO
namespace Go.Proofs.YtphjbbbnbmafnaaGreatDoor.G
open Go.RowKit

/-- two places change what they hold -/
def swp (l : List E3) (i j : Nat) : List E3 := match l[i]?, l[j]? with
  | some p, some q => (l.set i q).set j p
  | _, _ => l
theorem swp_len (l : List E3) (i j : Nat) : (swp l i j).length = l.length := by
  unfold swp; split <;> simp
theorem swp_lists (X Y Z : List E3) (p q : E3) : swp (X ++ p :: Y ++ q :: Z) X.length (X.length + 1 + Y.length) = X ++ q :: Y ++ p :: Z := by
  have h1 : (X ++ p :: Y ++ q :: Z)[X.length]? = some p := by simp
  have h2 : (X ++ p :: Y ++ q :: Z)[X.length + 1 + Y.length]? = some q := by
    rw [List.getElem?_append_right (by simp; omega)]
    rw [show X.length + 1 + Y.length - (X ++ p :: Y).length = 0 by simp; omega]; rfl
  unfold swp
  rw [h1, h2]
  simp only
  have e1 : (X ++ p :: Y ++ q :: Z).set X.length q = X ++ q :: Y ++ q :: Z := by simp
  rw [e1, List.set_append_right _ _ (by simp; omega)]
  rw [show X.length + 1 + Y.length - (X ++ q :: Y).length = 0 by simp; omega]
  simp
theorem RowE.swp {W : World} {g cap : Nat} {L : List E3} (h : RowE W g cap L) {i j : Nat} {p q : E3} (hi : L[i]? = some p) (hj : L[j]? = some q) :
    RowE ((((((W.setCell ⟨g, i * 3, none⟩ (.int .i64 q.1)).setCell ⟨g, i * 3 + 1, none⟩ (.int .i64 q.2.1)).setCell ⟨g, i * 3 + 2, none⟩ (.int .i64 q.2.2)).setCell ⟨g, j * 3, none⟩ (.int .i64 p.1)).setCell ⟨g, j * 3 + 1, none⟩ (.int .i64 p.2.1)).setCell ⟨g, j * 3 + 2, none⟩ (.int .i64 p.2.2)) g cap (swp L i j) := by
  have h1 := h.put q (len_of hi)
  have h2 := h1.put (k := j) p (by rw [List.length_set]; exact len_of hj)
  have e : G.swp L i j = (L.set i q).set j p := by unfold G.swp; rw [hi, hj]
  rw [e]
  exact h2
theorem gb_dn1 {w w' : World} {r : Option Nat} (h : w.grownBy w' r) : w.grownBy w'.drew r := ⟨h.os, h.tape, h.output, h.size, h.block⟩
theorem gb_six (W : World) (g a b c d e f : Nat) (u v x y z t : Value) : W.grownBy ((((((W.setCell ⟨g, a, none⟩ u).setCell ⟨g, b, none⟩ v).setCell ⟨g, c, none⟩ x).setCell ⟨g, d, none⟩ y).setCell ⟨g, e, none⟩ z).setCell ⟨g, f, none⟩ t) (some g) :=
  ((((((gb_set W g a u).trans (gb_set _ g b v)).trans (gb_set _ g c x)).trans (gb_set _ g d y)).trans (gb_set _ g e z)).trans (gb_set _ g f t))
set_option maxHeartbeats 8000000 in
set_option maxRecDepth 100000 in
theorem swap_any (X P Y Q Z : List E3) (a b n N g cap : Nat) (cv : Value) (w : World) (h : RowE w g cap (X ++ P ++ Y ++ Q ++ Z)) (ha : X.length = a) (hn : P.length = n) (hq : Q.length = n) (hb : a + n + Y.length = b) (hN : b + n + Z.length = N) (hl : N ≤ 1000000) :
    Calls Tryz.prog 217 #[.slice (some ⟨g, 0, none⟩) N cap, .int .i64 (a : Int), .int .i64 (b : Int), .int .i64 (n : Int), cv] w fun e w' => e = .returned (.tuple #[]) ∧ RowE w' g cap (X ++ Q ++ Y ++ P ++ Z) ∧ w.grownBy w' (some g) := by
  have HR0 : Hid (RowE w g cap (X ++ (Q.take 0 ++ P.drop 0) ++ Y ++ (P.take 0 ++ Q.drop 0) ++ Z)) := (by simpa using h : RowE w g cap (X ++ (Q.take 0 ++ P.drop 0) ++ Y ++ (P.take 0 ++ Q.drop 0) ++ Z))
  clear h
  have hab : a + n ≤ b := by omega
  have hbN : b + n ≤ N := by omega
  have HL : Hid _ := And.intro ha (And.intro hn (And.intro hq (And.intro hb hN)))
  clear ha hn hq hb hN
  go_enter Tryz.func217, Tryz.ntmps217
  go_wp2
  go_loopw [10] (fun si wr => ∃ i : Nat, i ≤ n ∧ si = .int .i64 (i : Int) ∧ Hid (RowE wr g cap (X ++ (Q.take i ++ P.drop i) ++ Y ++ (P.take i ++ Q.drop i) ++ Z) ∧ w.grownBy wr (some g))) (fun si _ => n - (intOf si).toNat)
  case atStart => exact ⟨0, Nat.zero_le _, rfl, HR0.out, ⟨rfl, rfl, rfl, Nat.le_refl _, fun _ _ _ => rfl⟩⟩
  case round =>
    obtain ⟨i, hi, rfl, HI⟩ := hrel
    by_cases hlt : i < n
    · obtain ⟨p, hp⟩ : ∃ p, P[i]? = some p := ⟨_, List.getElem?_eq_getElem (by have := HL.out; omega)⟩
      obtain ⟨q, hq⟩ : ∃ q, Q[i]? = some q := ⟨_, List.getElem?_eq_getElem (by have := HL.out; omega)⟩
      have HS : Hid (∃ A B C, X ++ (Q.take i ++ P.drop i) ++ Y ++ (P.take i ++ Q.drop i) ++ Z = A ++ p :: B ++ q :: C ∧ A.length = a + i ∧ A.length + 1 + B.length = b + i ∧ X ++ (Q.take (i + 1) ++ P.drop (i + 1)) ++ Y ++ (P.take (i + 1) ++ Q.drop (i + 1)) ++ Z = A ++ q :: B ++ p :: C) := (by
        obtain ⟨h1, h2, h3, h4, h5⟩ := HL.out
        have e1 : P.drop i = p :: P.drop (i + 1) := by rw [List.drop_eq_getElem_cons (by omega)]; congr 1; rw [List.getElem?_eq_getElem (by omega)] at hp; exact Option.some.inj hp
        have e2 : Q.drop i = q :: Q.drop (i + 1) := by rw [List.drop_eq_getElem_cons (by omega)]; congr 1; rw [List.getElem?_eq_getElem (by omega)] at hq; exact Option.some.inj hq
        have e3 : P.take (i + 1) = P.take i ++ [p] := by rw [List.take_add_one, hp]; rfl
        have e4 : Q.take (i + 1) = Q.take i ++ [q] := by rw [List.take_add_one, hq]; rfl
        refine ⟨X ++ Q.take i, P.drop (i + 1) ++ Y ++ P.take i, Q.drop (i + 1) ++ Z, ?_, ?_, ?_, ?_⟩
        · rw [e1, e2]; simp
        · rw [List.length_append, List.length_take]; omega
        · simp only [List.length_append, List.length_take, List.length_drop]; omega
        · rw [e3, e4]; simp : ∃ A B C, _)
      clear hp hq
      obtain ⟨A, B, C, hS1, hS2, hS3, hS4⟩ := HS.out
      have hR := HI.out.1
      rw [hS1] at hR
      have hG := HI.out.2
      have hsw : G.swp (A ++ p :: B ++ q :: C) (a + i) (b + i) = X ++ (Q.take (i + 1) ++ P.drop (i + 1)) ++ Y ++ (P.take (i + 1) ++ Q.drop (i + 1)) ++ Z := by rw [hS4, ← hS3, ← hS2]; exact swp_lists A B C p q
      have hpa : (A ++ p :: B ++ q :: C)[a + i]? = some p := by rw [← hS2]; simp
      have hqb : (A ++ p :: B ++ q :: C)[b + i]? = some q := by
        rw [← hS3, List.getElem?_append_right (by simp; omega), show A.length + 1 + B.length - (A ++ p :: B).length = 0 by simp; omega]; rfl
      have hR2 := hR.swp hpa hqb
      rw [hsw] at hR2
      obtain ⟨c0, c1, c2⟩ := hR.cells hpa
      obtain ⟨d0, d1, d2⟩ := hR.cells hqb
      have f0 := hR.frozen ((a + i) * 3)
      have f1 := hR.frozen ((a + i) * 3 + 1)
      have f2 := hR.frozen ((a + i) * 3 + 2)
      have g0 := hR.frozen ((b + i) * 3)
      have g1 := hR.frozen ((b + i) * 3 + 1)
      have g2 := hR.frozen ((b + i) * 3 + 2)
      have HI2 : Hid (RowE _ g cap (X ++ (Q.take (i + 1) ++ P.drop (i + 1)) ++ Y ++ (P.take (i + 1) ++ Q.drop (i + 1)) ++ Z)) := hR2
      have HG : Hid _ := hG
      obtain ⟨p1, p2, p3⟩ := p
      obtain ⟨q1, q2, q3⟩ := q
      clear HS hS1 hS2 hS3 hS4 hR hG hsw hpa hqb hR2 HI
      dsimp only at c0 c1 c2 d0 d1 d2
      have hne : b + i ≠ a + i := by omega
      go_wp2_with fail
      go_region
      have HG2 : Hid (w.grownBy _ (some g)) := HG.out.trans (gb_six wr g ((a + i) * 3) ((a + i) * 3 + 1) ((a + i) * 3 + 2) ((b + i) * 3) ((b + i) * 3 + 1) ((b + i) * 3 + 2) (.int .i64 q1) (.int .i64 q2) (.int .i64 q3) (.int .i64 p1) (.int .i64 p2) (.int .i64 p3))
      clear c0 c1 c2 d0 d1 d2 f0 f1 f2 g0 g1 g2
      revert HG2 HI2
      generalize (((((wr.setCell _ _).setCell _ _).setCell _ _).setCell _ _).setCell _ _).setCell _ _ = W2
      intro HI2 HG2
      go_wp2
      go_roundw
      case rel => exact ⟨i + 1, by omega, by go_num, HI2.out, gb_dn1 HG2.out⟩
      case measure => simp [intOf]; omega
    · obtain rfl : i = n := by omega
      have HE : Hid (RowE wr g cap (X ++ Q ++ Y ++ P ++ Z) ∧ w.grownBy wr (some g)) := (by
        have h := HI.out
        obtain ⟨h1, h2, h3, h4, h5⟩ := HL.out
        rw [List.take_of_length_le (by omega : Q.length ≤ i), List.drop_eq_nil_of_le (by omega : P.length ≤ i), List.take_of_length_le (by omega : P.length ≤ i), List.drop_eq_nil_of_le (by omega : Q.length ≤ i), List.append_nil, List.append_nil] at h
        exact h : _ ∧ _)
      go_wp2
      go_end0
      exact ⟨rfl, HE.out⟩
set_option maxHeartbeats 8000000 in
set_option maxRecDepth 100000 in
theorem rot_any (X U V Z : List E3) (a m b N g cap : Nat) (cv : Value) (w : World) (h : RowE w g cap (X ++ U ++ V ++ Z)) (ha : X.length = a) (hu : a + U.length = m) (hv : m + V.length = b) (hN : b + Z.length = N) (hu0 : U ≠ []) (hv0 : V ≠ []) (hl : N ≤ 1000000) :
    Calls Tryz.prog 215 #[.slice (some ⟨g, 0, none⟩) N cap, .int .i64 (a : Int), .int .i64 (m : Int), .int .i64 (b : Int), cv] w fun e w' => e = .returned (.tuple #[]) ∧ RowE w' g cap (X ++ V ++ U ++ Z) ∧ w.grownBy w' (some g) := by
  have hu1 := List.length_pos_iff.2 hu0
  have hv1 := List.length_pos_iff.2 hv0
  obtain ⟨T, hT⟩ : ∃ T, T = X ++ V ++ U ++ Z := ⟨_, rfl⟩
  rw [← hT]
  have H0 : Hid (∃ X' U' V' Z' : List E3, RowE w g cap (X' ++ U' ++ V' ++ Z') ∧ X'.length + (m - a) = m ∧ U'.length = m - a ∧ V'.length = b - m ∧ m + (b - m) + Z'.length = N ∧ X' ++ V' ++ U' ++ Z' = T) := (⟨X, U, V, Z, h, by omega, by omega, by omega, by omega, hT.symm⟩ : ∃ X' U' V' Z' : List E3, _)
  have hmb : m < b := by omega
  have ham : a < m := by omega
  have hbN : b ≤ N := by omega
  clear h ha hu hv hN hu0 hv0 hu1 hv1 hT
  clear X U V Z
  have e1 : (m : Int) - (a : Int) = ((m - a : Nat) : Int) := by omega
  have e2 : (b : Int) - (m : Int) = ((b - m : Nat) : Int) := by omega
  go_enter Tryz.func215, Tryz.ntmps215
  go_wp2
  go_loopw [10, 11] (fun si sj wr => ∃ i j : Nat, si = .int .i64 (i : Int) ∧ sj = .int .i64 (j : Int) ∧ 0 < i ∧ 0 < j ∧ i ≤ m ∧ m + j ≤ N ∧ Hid ((∃ X U V Z : List E3, RowE wr g cap (X ++ U ++ V ++ Z) ∧ X.length + i = m ∧ U.length = i ∧ V.length = j ∧ m + j + Z.length = N ∧ X ++ V ++ U ++ Z = T) ∧ w.grownBy wr (some g))) (fun si sj _ => (intOf si).toNat + (intOf sj).toNat)
  case atStart => exact ⟨m - a, b - m, rfl, rfl, by omega, by omega, by omega, by omega, H0.out, ⟨rfl, rfl, rfl, Nat.le_refl _, fun _ _ _ => rfl⟩⟩
  case round =>
    obtain ⟨i, j, rfl, rfl, hi0, hj0, him, hjN, HI⟩ := hrel
    clear e1 e2
    have e1 : (m : Int) - (i : Int) = ((m - i : Nat) : Int) := by omega
    by_cases hij : i = j
    · have hijb : ((i : Int) != (j : Int)) = false := by rw [hij]; simp
      obtain ⟨X, U, V, Z, hR, h1, h2, h3, h4, h5⟩ := HI.out.1
      have HC : Hid (Calls Tryz.prog 217 _ wr _) := swap_any X U [] V Z (m - i) m i N g cap cv wr (by simpa using hR) (by omega) h2 (by omega) (by simp; omega) (by omega) hl
      have HT : Hid (X ++ V ++ [] ++ U ++ Z = T) := (by rw [List.append_nil]; exact h5 : _ = _)
      have HG : Hid _ := HI.out.2
      clear hR h1 h2 h3 h4 h5 HI hij
      go_wp2_with fail
      refine (Calls.mono HC.out ?_)
      rintro e w2 ⟨rfl, hr2, hg2⟩
      rw [HT.out] at hr2
      have HE : Hid _ := And.intro hr2 (HG.out.trans hg2)
      clear hr2 hg2
      go_wp2
      go_end0
      exact ⟨rfl, HE.out⟩
    · have hijb : ((i : Int) != (j : Int)) = true := by simpa using (by omega : ¬ (i : Int) = (j : Int))
      by_cases hgt : i > j
      · obtain ⟨X, U, V, Z, hR, h1, h2, h3, h4, h5⟩ := HI.out.1
        have hsp := List.take_append_drop j U
        have HC : Hid (Calls Tryz.prog 217 _ wr _) := swap_any X (U.take j) (U.drop j) V Z (m - i) m j N g cap cv wr (by
          have h := hR
          rw [← hsp] at h
          simpa using h) (by omega) (by rw [List.length_take]; omega) h3 (by rw [List.length_drop]; omega) (by omega) hl
        have HN : Hid (∀ W : World, RowE W g cap (X ++ V ++ U.drop j ++ U.take j ++ Z) → ∃ X' U' V' Z' : List E3, RowE W g cap (X' ++ U' ++ V' ++ Z') ∧ X'.length + (i - j) = m ∧ U'.length = i - j ∧ V'.length = j ∧ m + j + Z'.length = N ∧ X' ++ V' ++ U' ++ Z' = T) := (fun W h => ⟨X ++ V, U.drop j, U.take j, Z, h, by rw [List.length_append]; omega, by rw [List.length_drop]; omega, by rw [List.length_take]; omega, h4, by rw [← h5]; simp [hsp]⟩ : ∀ W : World, _)
        have HG : Hid _ := HI.out.2
        clear hR h1 h2 h3 h4 h5 HI hsp
        go_wp2_with fail
        refine (Calls.mono HC.out ?_)
        rintro e w2 ⟨rfl, hr2, hg2⟩
        have HE : Hid _ := And.intro (HN.out _ hr2) (HG.out.trans hg2)
        clear hr2 hg2
        go_wp2
        go_roundw
        case rel => exact ⟨i - j, j, by go_num, rfl, by omega, hj0, by omega, hjN, HE.out⟩
        case measure => simp [intOf]; omega
      · obtain ⟨X, U, V, Z, hR, h1, h2, h3, h4, h5⟩ := HI.out.1
        have hsp := List.take_append_drop (j - i) V
        have e3 : (m : Int) + (j : Int) - (i : Int) = ((m + j - i : Nat) : Int) := by omega
        have HC : Hid (Calls Tryz.prog 217 _ wr _) := swap_any X U (V.take (j - i)) (V.drop (j - i)) Z (m - i) (m + j - i) i N g cap cv wr (by
          have h := hR
          rw [← hsp] at h
          simpa using h) (by omega) h2 (by rw [List.length_drop]; omega) (by rw [List.length_take]; omega) (by omega) hl
        have HN : Hid (∀ W : World, RowE W g cap (X ++ V.drop (j - i) ++ V.take (j - i) ++ U ++ Z) → ∃ X' U' V' Z' : List E3, RowE W g cap (X' ++ U' ++ V' ++ Z') ∧ X'.length + i = m ∧ U'.length = i ∧ V'.length = j - i ∧ m + (j - i) + Z'.length = N ∧ X' ++ V' ++ U' ++ Z' = T) := (fun W h => ⟨X, V.drop (j - i), V.take (j - i), U ++ Z, by simpa using h, h1, by rw [List.length_drop]; omega, by rw [List.length_take]; omega, by rw [List.length_append]; omega, by rw [← h5]; conv => { rhs; rw [← hsp] }; simp⟩ : ∀ W : World, _)
        have HG : Hid _ := HI.out.2
        clear hR h1 h2 h3 h4 h5 HI hsp
        go_wp2_with fail
        refine (Calls.mono HC.out ?_)
        rintro e w2 ⟨rfl, hr2, hg2⟩
        have HE : Hid _ := And.intro (HN.out _ hr2) (HG.out.trans hg2)
        clear hr2 hg2
        go_wp2
        go_roundw
        case rel => exact ⟨i, j - i, rfl, by go_num, hi0, by omega, him, by omega, HE.out⟩
        case measure => simp [intOf]; omega
end Go.Proofs.YtphjbbbnbmafnaaGreatDoor.G

namespace Go.Proofs.YtphjbbbnbmafnaaGreatDoor.G
open Go.RowKit

theorem gb_dnN (w w' : World) (row : Option Nat) (h : w.grownBy w' row) (n : Nat) : w.grownBy (w'.drewN n) row := ⟨h.os, h.tape, h.output, h.size, h.block⟩
theorem RowE.kept {W W' : World} {g cap : Nat} {L : List E3} {row : Option Nat} (h : RowE W g cap L) (hg : W.grownBy W' row) (hne : some g ≠ row) : RowE W' g cap L := by
  obtain ⟨cur, h1, h2⟩ := h
  exact ⟨cur, by rw [hg.block g ((Array.getElem?_eq_some_iff.1 h1).1) hne]; exact h1, h2⟩
theorem RowE.lt {W : World} {g cap : Nat} {L : List E3} (h : RowE W g cap L) : g < W.heap.size := by
  obtain ⟨cur, h1, h2⟩ := h
  exact (Array.getElem?_eq_some_iff.1 h1).1
theorem swp_back (P Q : List E3) (y x : E3) : swp (P ++ y :: x :: Q) (P.length + 1) P.length = P ++ x :: y :: Q := by
  have h1 : (P ++ y :: x :: Q)[P.length]? = some y := by simp
  have h2 : (P ++ y :: x :: Q)[P.length + 1]? = some x := by
    rw [List.getElem?_append_right (by omega), show P.length + 1 - P.length = 1 by omega]; rfl
  unfold swp
  rw [h1, h2]
  simp only
  rw [List.set_append_right _ _ (by omega), List.set_append_right _ _ (by omega)]
  simp
theorem cmpI_lt (a b : Int) : (Lib.compareInt a b < 0) ↔ a < b := by
  rcases cmpI a b with ⟨e, h⟩ | ⟨e, h⟩ | ⟨e, h⟩ <;> rw [e] <;> omega
theorem last_of (A : List E3) (h : A ≠ []) : ∃ B y, A = B ++ [y] := ⟨A.dropLast, A.getLast h, (List.dropLast_concat_getLast h).symm⟩
theorem ins_step {A A1 A2 D : List E3} {x : E3} {k : Nat} (hA : A.Perm (D.take k)) (hS : Gm.S2 A) (hx : D[k]? = some x) (hA2 : A1 ++ A2 = A) (hz : ∀ z ∈ A2, Gm.lt2 x z = true) (h1 : ∀ z ∈ A1, Gm.lt2 z x = true) : (A1 ++ x :: A2).Perm (D.take (k + 1)) ∧ Gm.S2 (A1 ++ x :: A2) := by
  subst hA2
  refine ⟨?_, Gm.s2_between A1 A2 x hS hz h1⟩
  rw [List.take_add_one, hx]
  refine List.perm_middle.trans ?_
  refine List.Perm.trans ?_ List.perm_append_comm
  exact hA.cons x
set_option maxHeartbeats 8000000 in
set_option maxRecDepth 100000 in
theorem ins_any (X D Y : List E3) (a b N g cap : Nat) (w : World) (h : RowE w g cap (X ++ D ++ Y)) (hD : Gm.Strict D) (ha : X.length = a) (hb : a + D.length = b) (hN : b + Y.length = N) (hl : N ≤ 1000000) :
    Calls Tryz.prog 199 #[.slice (some ⟨g, 0, none⟩) N cap, .int .i64 (a : Int), .int .i64 (b : Int), .func (.func 106) #[] #[]] w fun e w' => e = .returned (.tuple #[]) ∧ (∃ D', RowE w' g cap (X ++ D' ++ Y) ∧ D'.Perm D ∧ Gm.S2 D') ∧ w.grownBy w' (some g) := by
  by_cases h1 : D.length ≤ 1
  · have HE : Hid _ := h
    have HD : Hid (Gm.S2 D) := (by
      match D, h1 with
      | [], _ => exact List.Pairwise.nil
      | [x], _ => exact List.pairwise_singleton _ _ : Gm.S2 D)
    have hI : ¬ (a : Int) + 1 < (b : Int) := by omega
    clear h
    go_enter Tryz.func199, Tryz.ntmps199
    go_wp2
    go_loopw [8] (fun si wr => si = .int .i64 ((a : Int) + 1) ∧ wr = w) (fun _ _ => 0)
    case atStart => exact ⟨rfl, rfl⟩
    case round =>
      obtain ⟨rfl, rfl⟩ := hrel
      go_wp2
      go_end0
      exact ⟨rfl, ⟨D, HE.out, List.Perm.refl _, HD.out⟩, ⟨rfl, rfl, rfl, Nat.le_refl _, fun _ _ _ => rfl⟩⟩
  · have H0 : Hid (∃ A R, RowE w g cap (X ++ A ++ R ++ Y) ∧ A.Perm (D.take 1) ∧ R = D.drop 1 ∧ Gm.S2 A) := (⟨D.take 1, D.drop 1, by rw [List.append_assoc X, List.take_append_drop]; exact h, List.Perm.refl _, rfl, by
      match D, h1 with
      | x :: _, _ => exact List.pairwise_singleton _ _⟩ : ∃ A R, _)
    have HD : Hid _ := hD
    have HL : Hid _ := And.intro ha (And.intro hb hN)
    have hab : a + 1 < b := by omega
    have hbN : b ≤ N := by omega
    clear h hD ha hb hN h1
    go_enter Tryz.func199, Tryz.ntmps199
    go_wp2
    go_loopw [8] (fun si wr => ∃ i : Nat, a + 1 ≤ i ∧ i ≤ b ∧ si = .int .i64 (i : Int) ∧ Hid ((∃ A R, RowE wr g cap (X ++ A ++ R ++ Y) ∧ A.Perm (D.take (i - a)) ∧ R = D.drop (i - a) ∧ Gm.S2 A) ∧ w.grownBy wr (some g))) (fun si _ => b - (intOf si).toNat)
    case atStart => exact ⟨a + 1, Nat.le_refl _, by omega, by go_num, by rw [show a + 1 - a = 1 by omega]; exact H0.out, ⟨rfl, rfl, rfl, Nat.le_refl _, fun _ _ _ => rfl⟩⟩
    case round =>
      obtain ⟨i, hi1, hi2, rfl, HI⟩ := hrel
      by_cases hlt : i < b
      · obtain ⟨A, R, hR, hA, rfl, hS⟩ := HI.out.1
        obtain ⟨x, hx⟩ : ∃ x, D[i - a]? = some x := ⟨_, List.getElem?_eq_getElem (by have := HL.out; omega)⟩
        have hAl : A.length = i - a := by rw [hA.length_eq, List.length_take]; have := HL.out; omega
        have e1 : D.drop (i - a) = x :: D.drop (i - a + 1) := by rw [List.drop_eq_getElem_cons (by have := HL.out; omega)]; congr 1; rw [List.getElem?_eq_getElem (by have := HL.out; omega)] at hx; exact Option.some.inj hx
        have hbef : ∀ y ∈ A, Gm.ltE y x = true := fun y hy => by
          have h3 : (D.take (i - a) ++ x :: D.drop (i - a + 1)).Pairwise (fun a b => Gm.ltE a b = true) := by rw [← e1, List.take_append_drop]; exact HD.out
          exact (List.pairwise_append.1 h3).2.2 y (hA.mem_iff.1 hy) x (List.mem_cons_self)
        rw [e1] at hR
        have HJ0 : Hid (∃ A1 A2, RowE wr g cap (X ++ A1 ++ x :: A2 ++ D.drop (i - a + 1) ++ Y) ∧ a + A1.length = i ∧ A1 ++ A2 = A ∧ ∀ z ∈ A2, Gm.lt2 x z = true) := (⟨A, [], by simpa using hR, by omega, by simp, by simp⟩ : ∃ A1 A2, _)
        have HA : Hid _ := And.intro hA (And.intro hS (And.intro hbef (And.intro hx hAl)))
        have HG : Hid _ := HI.out.2
        clear HI hR hA hS hbef hx e1 hAl
        obtain ⟨W0, hW0⟩ : ∃ W0, W0 = wr := ⟨wr, rfl⟩
        rw [← hW0] at HJ0 HG
        have HW0 : Hid _ := hW0
        clear hW0
        go_wp2
        go_loopw [9] (fun sj wr => ∃ j : Nat, a ≤ j ∧ j ≤ i ∧ sj = .int .i64 (j : Int) ∧ Hid ((∃ A1 A2, RowE wr g cap (X ++ A1 ++ x :: A2 ++ D.drop (i - a + 1) ++ Y) ∧ a + A1.length = j ∧ A1 ++ A2 = A ∧ ∀ z ∈ A2, Gm.lt2 x z = true) ∧ w.grownBy wr (some g))) (fun sj _ => (intOf sj).toNat)
        case atStart => exact ⟨i, by omega, Nat.le_refl _, rfl, by rw [← HW0.out]; exact HJ0.out, by rw [← HW0.out]; exact HG.out⟩
        case round =>
          obtain ⟨j, hj1, hj2, rfl, HI⟩ := hrel
          by_cases hja : j > a
          · obtain ⟨A1, A2, hR, hA1, hA2, hz⟩ := HI.out.1
            obtain ⟨B, y, rfl⟩ := last_of A1 (by intro e; subst e; simp at hA1; omega)
            obtain ⟨k, hjk⟩ : ∃ k, j = k + 1 := ⟨j - 1, by omega⟩
            have hk : a + B.length = k := by simp at hA1; omega
            have hPk : (X ++ B).length = k := by rw [List.length_append]; have := HL.out; omega
            have hre : X ++ (B ++ [y]) ++ x :: A2 ++ D.drop (i - a + 1) ++ Y = (X ++ B) ++ y :: x :: (A2 ++ D.drop (i - a + 1) ++ Y) := by simp
            rw [hre] at hR
            have hy : ((X ++ B) ++ y :: x :: (A2 ++ D.drop (i - a + 1) ++ Y))[k]? = some y := by rw [← hPk]; simp
            have hx : ((X ++ B) ++ y :: x :: (A2 ++ D.drop (i - a + 1) ++ Y))[j]? = some x := by
              rw [hjk, ← hPk, List.getElem?_append_right (by omega), show (X ++ B).length + 1 - (X ++ B).length = 1 by omega]; rfl
            have hord := Gm.lt2_late x y (HA.out.2.2.1 y (by rw [← hA2]; simp))
            obtain ⟨c0, c1, c2⟩ := hR.cells hy
            obtain ⟨d0, d1, d2⟩ := hR.cells hx
            have HRr : Hid (RowE wr g cap ((X ++ B) ++ y :: x :: (A2 ++ D.drop (i - a + 1) ++ Y))) := hR
            have HX : Hid _ := And.intro hy (And.intro hx (And.intro hord (And.intro hPk (And.intro hk (And.intro hA2 (And.intro hz hre))))))
            have HG1 : Hid _ := HI.out.2
            have hgl := hR.lt
            have hjN : j < N := by omega
            have hkN : k < N := by omega
            have e8 : IntKind.i64.wrap (k : Int) = (k : Int) := by rw [IntKind.wrap_i64]; omega
            have e9 : (j : Int) - 1 = (k : Int) := by omega
            have hjI : (j : Int) > (a : Int) := by omega
            have hkI : (k : Int) < (N : Int) := by omega
            have hjI2 : (j : Int) < (N : Int) := by omega
            have hj0 : 1 ≤ j := by omega
            have HJ : Hid _ := hjk
            clear HI hR hA1 hA2 hz hre hy hx hord hk hPk hjk
            obtain ⟨x1, x2, x3⟩ := x
            obtain ⟨y1, y2, y3⟩ := y
            dsimp only at c0 c1 c2 d0 d1 d2
            have HC : ∀ W, Hid (Calls Tryz.prog 106 _ W _) := fun W => cmplab_any x1 x2 x3 y1 y2 y3 W
            have hci := cmpI_lt x2 y2
            by_cases hc : x2 < y2
            · have hcl := hci.2 hc
              clear hci
              go_upto_region 4 with fail
              go_region_held (fun w' => w'.cell? ⟨g, j * 3, none⟩ = some (.int .i64 x1) ∧ w'.cell? ⟨g, j * 3 + 1, none⟩ = some (.int .i64 x2) ∧ w'.cell? ⟨g, j * 3 + 2, none⟩ = some (.int .i64 x3) ∧ w'.cell? ⟨g, k * 3, none⟩ = some (.int .i64 y1) ∧ w'.cell? ⟨g, k * 3 + 1, none⟩ = some (.int .i64 y2) ∧ w'.cell? ⟨g, k * 3 + 2, none⟩ = some (.int .i64 y3)) (refine ⟨?_, ?_, ?_, ?_, ?_, ?_⟩ <;> (repeat (first | assumption | apply cell_dr | apply cell_al)))
                (first
                  | (go_at_call 106; refine (Calls.mono (HC _).out ?_); rintro e w' ⟨rfl, rfl⟩))
              have HR2 : Hid (RowE ((wr.alloc (.cells #[.int .i64 x1, .int .i64 x2, .int .i64 x3] 38)).alloc (.cells #[.int .i64 y1, .int .i64 y2, .int .i64 y3] 38)) g cap ((X ++ B) ++ (y1, y2, y3) :: (x1, x2, x3) :: (A2 ++ D.drop (i - a + 1) ++ Y))) := (HRr.out.kept (World.grownBy_alloc _ _ none) (by simp)).kept (World.grownBy_alloc _ _ none) (by simp)
              have HG2 : Hid (w.grownBy ((wr.alloc (.cells #[.int .i64 x1, .int .i64 x2, .int .i64 x3] 38)).alloc (.cells #[.int .i64 y1, .int .i64 y2, .int .i64 y3] 38)) (some g)) := (HG1.out.trans (World.grownBy_alloc _ _ _)).trans (World.grownBy_alloc _ _ _)
              clear c0 c1 c2 d0 d1 d2
              revert HR2 HG2
              generalize (wr.alloc _).alloc _ = W2
              intro HR2 HG2
              have hR := HR2.out
              obtain ⟨c0, c1, c2⟩ := hR.cells HX.out.1
              obtain ⟨d0, d1, d2⟩ := hR.cells HX.out.2.1
              have f0 := hR.frozen (k * 3)
              have f1 := hR.frozen (k * 3 + 1)
              have f2 := hR.frozen (k * 3 + 2)
              have g0 := hR.frozen (j * 3)
              have g1 := hR.frozen (j * 3 + 1)
              have g2 := hR.frozen (j * 3 + 2)
              have hne : j ≠ k := by omega
              have hR2 := hR.swp HX.out.2.1 HX.out.1
              have HI2 : Hid (RowE _ g cap (X ++ B ++ (x1, x2, x3) :: ((y1, y2, y3) :: A2) ++ D.drop (i - a + 1) ++ Y)) := (by
                have e := swp_back (X ++ B) (A2 ++ D.drop (i - a + 1) ++ Y) (y1, y2, y3) (x1, x2, x3)
                rw [HX.out.2.2.2.1, ← HJ.out] at e
                rw [e] at hR2
                simpa using hR2 : RowE _ g cap _)
              have HG3 : Hid (w.grownBy _ (some g)) := HG2.out.trans (gb_six W2 g (j * 3) (j * 3 + 1) (j * 3 + 2) (k * 3) (k * 3 + 1) (k * 3 + 2) (.int .i64 y1) (.int .i64 y2) (.int .i64 y3) (.int .i64 x1) (.int .i64 x2) (.int .i64 x3))
              clear hR hR2
              go_wp2_with fail
              go_region
              clear c0 c1 c2 d0 d1 d2 f0 f1 f2 g0 g1 g2
              revert HG3 HI2
              generalize (((((W2.setCell _ _).setCell _ _).setCell _ _).setCell _ _).setCell _ _).setCell _ _ = W3
              intro HI2 HG3
              have HN : Hid ((∃ A1 A3, RowE W3 g cap (X ++ A1 ++ (x1, x2, x3) :: A3 ++ D.drop (i - a + 1) ++ Y) ∧ a + A1.length = k ∧ A1 ++ A3 = A ∧ ∀ z ∈ A3, Gm.lt2 (x1, x2, x3) z = true) ∧ w.grownBy W3 (some g)) := (⟨⟨B, (y1, y2, y3) :: A2, HI2.out, HX.out.2.2.2.2.1, by rw [← HX.out.2.2.2.2.2.1]; simp, fun z hz => by
                rcases List.mem_cons.1 hz with rfl | hz
                · exact HX.out.2.2.1.1.2 hc
                · exact HX.out.2.2.2.2.2.2.1 z hz⟩, HG3.out⟩ : _ ∧ _)
              clear HI2 HG3 HR2 HG2
              go_wp2
              go_roundw
              case rel => exact ⟨k, by omega, by omega, rfl, HN.out.1, gb_dn1 (gb_dn1 HN.out.2)⟩
              case measure => simp [intOf]; omega
            · have hcl : ¬ Lib.compareInt x2 y2 < 0 := fun h => hc (hci.1 h)
              clear hci
              go_upto_region 4 with fail
              go_region_held (fun w' => w'.cell? ⟨g, j * 3, none⟩ = some (.int .i64 x1) ∧ w'.cell? ⟨g, j * 3 + 1, none⟩ = some (.int .i64 x2) ∧ w'.cell? ⟨g, j * 3 + 2, none⟩ = some (.int .i64 x3) ∧ w'.cell? ⟨g, k * 3, none⟩ = some (.int .i64 y1) ∧ w'.cell? ⟨g, k * 3 + 1, none⟩ = some (.int .i64 y2) ∧ w'.cell? ⟨g, k * 3 + 2, none⟩ = some (.int .i64 y3)) (refine ⟨?_, ?_, ?_, ?_, ?_, ?_⟩ <;> (repeat (first | assumption | apply cell_dr | apply cell_al)))
                (first
                  | (go_at_call 106; refine (Calls.mono (HC _).out ?_); rintro e w' ⟨rfl, rfl⟩))
              have HR2 : Hid (RowE ((wr.alloc (.cells #[.int .i64 x1, .int .i64 x2, .int .i64 x3] 38)).alloc (.cells #[.int .i64 y1, .int .i64 y2, .int .i64 y3] 38)) g cap ((X ++ B) ++ (y1, y2, y3) :: (x1, x2, x3) :: (A2 ++ D.drop (i - a + 1) ++ Y))) := (HRr.out.kept (World.grownBy_alloc _ _ none) (by simp)).kept (World.grownBy_alloc _ _ none) (by simp)
              have HG2 : Hid (w.grownBy ((wr.alloc (.cells #[.int .i64 x1, .int .i64 x2, .int .i64 x3] 38)).alloc (.cells #[.int .i64 y1, .int .i64 y2, .int .i64 y3] 38)) (some g)) := (HG1.out.trans (World.grownBy_alloc _ _ _)).trans (World.grownBy_alloc _ _ _)
              clear c0 c1 c2 d0 d1 d2
              revert HR2 HG2
              generalize (wr.alloc _).alloc _ = W2
              intro HR2 HG2
              have HN : Hid ((∃ A3 R, RowE W2 g cap (X ++ A3 ++ R ++ Y) ∧ A3.Perm (D.take (i + 1 - a)) ∧ R = D.drop (i + 1 - a) ∧ Gm.S2 A3) ∧ w.grownBy W2 (some g)) := (by
                have hst := ins_step HA.out.1 HA.out.2.1 HA.out.2.2.2.1 HX.out.2.2.2.2.2.1 HX.out.2.2.2.2.2.2.1 (by
                  have h := HA.out.2.1
                  rw [← HX.out.2.2.2.2.2.1] at h
                  exact Gm.s2_last B (y1, y2, y3) (x1, x2, x3) (List.pairwise_append.1 h).1 (HX.out.2.2.1.2.2 hc))
                refine ⟨⟨B ++ [(y1, y2, y3)] ++ (x1, x2, x3) :: A2, D.drop (i + 1 - a), ?_, ?_, rfl, hst.2⟩, HG2.out⟩
                · rw [show i + 1 - a = i - a + 1 by omega]; simpa using HR2.out
                · rw [show i + 1 - a = i - a + 1 by omega]; exact hst.1 : _ ∧ _)
              clear HR2 HG2
              go_wp2
              go_roundw
              case rel => exact ⟨i + 1, by omega, by omega, by go_num, HN.out.1, gb_dn1 HN.out.2⟩
              case measure => simp [intOf]; omega
          · obtain rfl : j = a := by omega
            have HN : Hid ((∃ A3 R, RowE wr g cap (X ++ A3 ++ R ++ Y) ∧ A3.Perm (D.take (i + 1 - j)) ∧ R = D.drop (i + 1 - j) ∧ Gm.S2 A3) ∧ w.grownBy wr (some g)) := (by
              obtain ⟨A1, A2, hR, hA1, hA2, hz⟩ := HI.out.1
              obtain rfl : A1 = [] := List.eq_nil_of_length_eq_zero (by omega)
              have hst := ins_step HA.out.1 HA.out.2.1 HA.out.2.2.2.1 hA2 hz (by simp)
              refine ⟨⟨[] ++ x :: A2, D.drop (i + 1 - j), ?_, ?_, rfl, hst.2⟩, HI.out.2⟩
              · rw [show i + 1 - j = i - j + 1 by omega]; simpa using hR
              · rw [show i + 1 - j = i - j + 1 by omega]; exact hst.1 : _ ∧ _)
            clear HI
            have hgd : ¬ (j : Int) > (j : Int) := by omega
            go_wp2_with fail
            go_quiet (fail)
            go_wp2
            go_roundw
            case rel => exact ⟨i + 1, by omega, by omega, by go_num, HN.out.1, gb_dnN _ _ _ HN.out.2 _⟩
            case measure => simp [intOf]; omega
      · obtain rfl : i = b := by omega
        have HE : Hid ((∃ D', RowE wr g cap (X ++ D' ++ Y) ∧ D'.Perm D ∧ Gm.S2 D') ∧ w.grownBy wr (some g)) := (by
          obtain ⟨A, R, hR, hA, rfl, hS⟩ := HI.out.1
          have hLo := HL.out
          rw [List.take_of_length_le (by omega)] at hA
          rw [List.drop_eq_nil_of_le (by omega), List.append_nil] at hR
          exact ⟨⟨A, hR, hA, hS⟩, HI.out.2⟩ : _ ∧ _)
        clear HI
        go_wp2
        go_end0
        exact ⟨rfl, HE.out⟩
end Go.Proofs.YtphjbbbnbmafnaaGreatDoor.G

namespace Go.Proofs.YtphjbbbnbmafnaaGreatDoor.G
open Go.RowKit

theorem mem_take_at {l : List E3} {k : Nat} {z : E3} (h : z ∈ l.take k) : ∃ t, t < k ∧ l[t]? = some z := by
  obtain ⟨t, ht⟩ := List.mem_iff_getElem?.1 h
  rw [List.getElem?_take] at ht
  split at ht
  · exact ⟨t, by assumption, ht⟩
  · cases ht
theorem mem_drop_at {l : List E3} {k : Nat} {z : E3} (h : z ∈ l.drop k) : ∃ t, k ≤ t ∧ l[t]? = some z := by
  obtain ⟨t, ht⟩ := List.mem_iff_getElem?.1 h
  rw [List.getElem?_drop] at ht
  exact ⟨k + t, by omega, ht⟩
theorem s2_lab {l : List E3} (h : Gm.S2 l) {s t : Nat} {y z : E3} (hs : l[s]? = some y) (ht : l[t]? = some z) (hst : s ≤ t) : y.2.1 ≤ z.2.1 := by
  rcases Nat.lt_or_ge s t with h1 | h1
  · have hl := List.pairwise_iff_getElem.1 h s t (len_of hs) (len_of ht) h1
    rw [List.getElem?_eq_getElem (len_of hs)] at hs
    rw [List.getElem?_eq_getElem (len_of ht)] at ht
    rw [Option.some.inj hs, Option.some.inj ht, Gm.lt2_iff] at hl
    omega
  · obtain rfl : s = t := by omega
    rw [hs] at ht
    rw [Option.some.inj ht]
    exact Int.le_refl _
theorem two_new {w W : World} {g cap : Nat} {L : List E3} (h : RowE W g cap L ∧ w.grownBy W (some g)) (o o2 : Obj) : RowE ((W.alloc o).alloc o2) g cap L ∧ w.grownBy ((W.alloc o).alloc o2) (some g) :=
  ⟨(h.1.kept (World.grownBy_alloc _ _ none) (by simp)).kept (World.grownBy_alloc _ _ none) (by simp), (h.2.trans (World.grownBy_alloc _ _ _)).trans (World.grownBy_alloc _ _ _)⟩
theorem swp_next (P Q : List E3) (y x : E3) : swp (P ++ y :: x :: Q) P.length (P.length + 1) = P ++ x :: y :: Q := by
  have := swp_lists P [] Q y x
  simpa using this
set_option maxHeartbeats 8000000 in
set_option maxRecDepth 100000 in
theorem symm_one (X B Y : List E3) (x : E3) (a m b N g cap : Nat) (w : World) (h : RowE w g cap (X ++ [x] ++ B ++ Y)) (ha : X.length = a) (hm : a + 1 = m) (hb : m + B.length = b) (hN : b + Y.length = N) (hl : N ≤ 1000000) (hS : Gm.S2 B) (hbef : ∀ y ∈ B, Gm.ltE x y = true) :
    Calls Tryz.prog 207 #[.slice (some ⟨g, 0, none⟩) N cap, .int .i64 (a : Int), .int .i64 (m : Int), .int .i64 (b : Int), .func (.func 106) #[] #[]] w fun e w' => e = .returned (.tuple #[]) ∧ (∃ M, RowE w' g cap (X ++ M ++ Y) ∧ M.Perm ([x] ++ B) ∧ Gm.S2 M) ∧ w.grownBy w' (some g) := by
  have hma : ((m : Int) - (a : Int) == 1) = true := by simpa using (by omega : (m : Int) - (a : Int) = 1)
  have H0 : Hid _ := h
  have HS : Hid _ := hS
  have HB : Hid _ := hbef
  have HL : Hid _ := And.intro ha (And.intro hm (And.intro hb hN))
  have hxa : (X ++ [x] ++ B ++ Y)[a]? = some x := by rw [← ha]; simp
  have hBat : ∀ t y, B[t]? = some y → (X ++ [x] ++ B ++ Y)[m + t]? = some y := fun t y hy => by
    have ht := len_of hy
    rw [List.append_assoc, List.getElem?_append_right (by simp; omega), List.getElem?_append_left (by simp; omega)]
    rw [show m + t - (X ++ [x]).length = t by simp; omega]; exact hy
  have HBA : Hid _ := hBat
  have HXA : Hid _ := hxa
  have hmb : m ≤ b := by omega
  have hbN : b ≤ N := by omega
  have ham : a < m := by omega
  clear h hS hbef ha hm hb hN hBat hxa
  go_enter Tryz.func207, Tryz.ntmps207
  go_wp2
  go_loopw [10, 11] (fun si sj wr => ∃ i j : Nat, m ≤ i ∧ i ≤ j ∧ j ≤ b ∧ si = .int .i64 (i : Int) ∧ sj = .int .i64 (j : Int) ∧ Hid (RowE wr g cap (X ++ [x] ++ B ++ Y) ∧ w.grownBy wr (some g) ∧ (∀ t y, B[t]? = some y → m + t < i → y.2.1 < x.2.1) ∧ (∀ t y, B[t]? = some y → j ≤ m + t → ¬ y.2.1 < x.2.1))) (fun si sj _ => (intOf sj).toNat - (intOf si).toNat)
  case atStart => exact ⟨m, b, Nat.le_refl _, hmb, Nat.le_refl _, rfl, rfl, H0.out, ⟨rfl, rfl, rfl, Nat.le_refl _, fun _ _ _ => rfl⟩, fun t y _ h2 => by omega, fun t y hy h2 => by have := len_of hy; have := HL.out; omega⟩
  case round =>
    obtain ⟨i, j, hi1, hij, hjb, rfl, rfl, HI⟩ := hrel
    by_cases hlt : i < j
    · obtain ⟨q, hq⟩ : ∃ q, q = (i + j) / 2 := ⟨_, rfl⟩
      have hh : ((i : Int) + (j : Int)) / 2 = (q : Int) := by omega
      have hqi : i ≤ q := by omega
      have hqj : q < j := by omega
      obtain ⟨y, hy⟩ : ∃ y, B[q - m]? = some y := ⟨_, List.getElem?_eq_getElem (by have := HL.out; omega)⟩
      have hyq := HBA.out _ _ hy
      rw [show m + (q - m) = q by omega] at hyq
      obtain ⟨c0, c1, c2⟩ := HI.out.1.cells hyq
      obtain ⟨d0, d1, d2⟩ := HI.out.1.cells HXA.out
      have HY : Hid _ := hy
      clear hy hyq hq
      have HX : Hid (RowE wr g cap (X ++ [x] ++ B ++ Y) ∧ w.grownBy wr (some g)) := (⟨HI.out.1, HI.out.2.1⟩ : _ ∧ _)
      have HP : Hid ((∀ t y, B[t]? = some y → m + t < i → y.2.1 < x.2.1) ∧ (∀ t y, B[t]? = some y → j ≤ m + t → ¬ y.2.1 < x.2.1)) := HI.out.2.2
      clear HI
      have hqN : q < N := by omega
      have haN : a < N := by omega
      obtain ⟨x1, x2, x3⟩ := x
      obtain ⟨y1, y2, y3⟩ := y
      dsimp only at c0 c1 c2 d0 d1 d2
      have HC : ∀ W, Hid (Calls Tryz.prog 106 _ W _) := fun W => cmplab_any y1 y2 y3 x1 x2 x3 W
      have hci := cmpI_lt y2 x2
      by_cases hc : y2 < x2
      · have hcl := hci.2 hc
        clear hci
        go_upto_region 5 with fail
        go_region_held (fun w' => w'.cell? ⟨g, q * 3, none⟩ = some (.int .i64 y1) ∧ w'.cell? ⟨g, q * 3 + 1, none⟩ = some (.int .i64 y2) ∧ w'.cell? ⟨g, q * 3 + 2, none⟩ = some (.int .i64 y3) ∧ w'.cell? ⟨g, a * 3, none⟩ = some (.int .i64 x1) ∧ w'.cell? ⟨g, a * 3 + 1, none⟩ = some (.int .i64 x2) ∧ w'.cell? ⟨g, a * 3 + 2, none⟩ = some (.int .i64 x3)) (refine ⟨?_, ?_, ?_, ?_, ?_, ?_⟩ <;> (repeat (first | assumption | apply cell_dr | apply cell_al)))
          (first
            | (go_at_call 106; refine (Calls.mono (HC _).out ?_); rintro e w' ⟨rfl, rfl⟩))
        have H2 : Hid _ := two_new HX.out (.cells #[.int .i64 y1, .int .i64 y2, .int .i64 y3] 38) (.cells #[.int .i64 x1, .int .i64 x2, .int .i64 x3] 38)
        clear c0 c1 c2 d0 d1 d2
        revert H2
        generalize (wr.alloc _).alloc _ = W2
        intro H2
        go_wp2
        go_roundw
        case rel => exact ⟨q + 1, j, by omega, by omega, hjb, by go_num, rfl, H2.out.1, gb_dn1 H2.out.2, fun t z hz h2 => by
          have := s2_lab HS.out hz HY.out (by omega)
          have hc' : y2 < x2 := hc
          have h3 : z.2.1 ≤ y2 := this
          show z.2.1 < x2
          omega, fun t z hz h2 => Int.not_lt.2 (HP.out.2 t z hz h2)⟩
        case measure => simp [intOf]; omega
      · have hcl : ¬ Lib.compareInt y2 x2 < 0 := fun h => hc (hci.1 h)
        clear hci
        go_upto_region 5 with fail
        go_region_held (fun w' => w'.cell? ⟨g, q * 3, none⟩ = some (.int .i64 y1) ∧ w'.cell? ⟨g, q * 3 + 1, none⟩ = some (.int .i64 y2) ∧ w'.cell? ⟨g, q * 3 + 2, none⟩ = some (.int .i64 y3) ∧ w'.cell? ⟨g, a * 3, none⟩ = some (.int .i64 x1) ∧ w'.cell? ⟨g, a * 3 + 1, none⟩ = some (.int .i64 x2) ∧ w'.cell? ⟨g, a * 3 + 2, none⟩ = some (.int .i64 x3)) (refine ⟨?_, ?_, ?_, ?_, ?_, ?_⟩ <;> (repeat (first | assumption | apply cell_dr | apply cell_al)))
          (first
            | (go_at_call 106; refine (Calls.mono (HC _).out ?_); rintro e w' ⟨rfl, rfl⟩))
        have H2 : Hid _ := two_new HX.out (.cells #[.int .i64 y1, .int .i64 y2, .int .i64 y3] 38) (.cells #[.int .i64 x1, .int .i64 x2, .int .i64 x3] 38)
        clear c0 c1 c2 d0 d1 d2
        revert H2
        generalize (wr.alloc _).alloc _ = W2
        intro H2
        go_wp2
        go_roundw
        case rel => exact ⟨i, q, by omega, by omega, by omega, rfl, by go_num, H2.out.1, gb_dn1 H2.out.2, HP.out.1, fun t z hz h2 => by
          have := s2_lab HS.out HY.out hz (by omega)
          have h3 : y2 ≤ z.2.1 := this
          show ¬ z.2.1 < x2
          omega⟩
        case measure => simp [intOf]; omega
    · obtain rfl : i = j := by omega
      have HM : Hid (Gm.S2 (B.take (i - m) ++ x :: B.drop (i - m))) := (by
        refine Gm.s2_between _ _ x (by rw [List.take_append_drop]; exact HS.out) (fun z hz => ?_) (fun z hz => ?_)
        · obtain ⟨t, ht, hzt⟩ := mem_drop_at hz
          exact ((Gm.lt2_late z x (HB.out z (List.mem_of_getElem? hzt))).2).2 (HI.out.2.2.2 t z hzt (by omega))
        · obtain ⟨t, ht, hzt⟩ := mem_take_at hz
          exact ((Gm.lt2_late z x (HB.out z (List.mem_of_getElem? hzt))).1).2 (HI.out.2.2.1 t z hzt (by omega)) : Gm.S2 _)
      have HK0 : Hid (RowE wr g cap (X ++ B.take (a - a) ++ x :: B.drop (a - a) ++ Y) ∧ w.grownBy wr (some g)) := (by
        rw [Nat.sub_self]
        exact ⟨by simpa using HI.out.1, HI.out.2.1⟩ : _ ∧ _)
      have hi1I : (i : Int) - 1 = ((i - 1 : Nat) : Int) := by omega
      clear HI
      go_wp2
      go_loopw [13] (fun sk wr => ∃ k : Nat, a ≤ k ∧ k ≤ i - 1 ∧ sk = .int .i64 (k : Int) ∧ Hid (RowE wr g cap (X ++ B.take (k - a) ++ x :: B.drop (k - a) ++ Y) ∧ w.grownBy wr (some g))) (fun sk _ => i - (intOf sk).toNat)
      case atStart => exact ⟨a, Nat.le_refl _, by omega, rfl, HK0.out⟩
      case round =>
        obtain ⟨k, hk1, hk2, rfl, HI⟩ := hrel
        by_cases hlt2 : k < i - 1
        · obtain ⟨y, hy⟩ : ∃ y, B[k - a]? = some y := ⟨_, List.getElem?_eq_getElem (by have := HL.out; omega)⟩
          have hPk : (X ++ B.take (k - a)).length = k := by rw [List.length_append, List.length_take]; have := HL.out; have := len_of hy; omega
          have e1 : B.drop (k - a) = y :: B.drop (k - a + 1) := by rw [List.drop_eq_getElem_cons (len_of hy)]; congr 1; rw [List.getElem?_eq_getElem (len_of hy)] at hy; exact Option.some.inj hy
          have e2 : B.take (k - a + 1) = B.take (k - a) ++ [y] := by rw [List.take_add_one, hy]; rfl
          have hre : X ++ B.take (k - a) ++ x :: B.drop (k - a) ++ Y = (X ++ B.take (k - a)) ++ x :: y :: (B.drop (k - a + 1) ++ Y) := by rw [e1]; simp
          have hR := HI.out.1
          rw [hre] at hR
          have hxk : ((X ++ B.take (k - a)) ++ x :: y :: (B.drop (k - a + 1) ++ Y))[k]? = some x := by
            have := List.getElem?_append_right (l₁ := X ++ B.take (k - a)) (l₂ := x :: y :: (B.drop (k - a + 1) ++ Y)) (i := k) (by omega)
            rw [this, hPk, Nat.sub_self]; rfl
          have hyk : ((X ++ B.take (k - a)) ++ x :: y :: (B.drop (k - a + 1) ++ Y))[k + 1]? = some y := by
            have := List.getElem?_append_right (l₁ := X ++ B.take (k - a)) (l₂ := x :: y :: (B.drop (k - a + 1) ++ Y)) (i := k + 1) (by omega)
            rw [this, hPk, show k + 1 - k = 1 by omega]; rfl
          have hsw := swp_next (X ++ B.take (k - a)) (B.drop (k - a + 1) ++ Y) x y
          rw [hPk] at hsw
          have hR2 := hR.swp hxk hyk
          rw [hsw] at hR2
          obtain ⟨c0, c1, c2⟩ := hR.cells hxk
          obtain ⟨d0, d1, d2⟩ := hR.cells hyk
          have f0 := hR.frozen (k * 3)
          have f1 := hR.frozen (k * 3 + 1)
          have f2 := hR.frozen (k * 3 + 2)
          have g0 := hR.frozen ((k + 1) * 3)
          have g1 := hR.frozen ((k + 1) * 3 + 1)
          have g2 := hR.frozen ((k + 1) * 3 + 2)
          have HI2 : Hid (RowE _ g cap (X ++ B.take (k + 1 - a) ++ x :: B.drop (k + 1 - a) ++ Y)) := (by
            rw [show k + 1 - a = k - a + 1 by omega, e2]
            simpa using hR2 : RowE _ g cap _)
          have HG1 : Hid _ := HI.out.2
          have hne : k + 1 ≠ k := by omega
          have hkN : k + 1 < N := by omega
          have hkI : (k : Int) < ((i - 1 : Nat) : Int) := by omega
          clear hR hR2 hsw hxk hyk hre e1 e2 hPk hy HI
          obtain ⟨x1, x2, x3⟩ := x
          obtain ⟨y1, y2, y3⟩ := y
          dsimp only at c0 c1 c2 d0 d1 d2
          have HG3 : Hid (w.grownBy _ (some g)) := HG1.out.trans (gb_six wr g (k * 3) (k * 3 + 1) (k * 3 + 2) ((k + 1) * 3) ((k + 1) * 3 + 1) ((k + 1) * 3 + 2) (.int .i64 y1) (.int .i64 y2) (.int .i64 y3) (.int .i64 x1) (.int .i64 x2) (.int .i64 x3))
          go_wp2_with fail
          go_region
          clear c0 c1 c2 d0 d1 d2 f0 f1 f2 g0 g1 g2
          revert HG3 HI2
          generalize (((((wr.setCell _ _).setCell _ _).setCell _ _).setCell _ _).setCell _ _).setCell _ _ = W3
          intro HI2 HG3
          go_wp2
          go_roundw
          case rel => exact ⟨k + 1, by omega, by omega, by go_num, HI2.out, gb_dn1 HG3.out⟩
          case measure => simp [intOf]; omega
        · obtain rfl : k = i - 1 := by omega
          have HE : Hid ((∃ M, RowE wr g cap (X ++ M ++ Y) ∧ M.Perm ([x] ++ B) ∧ Gm.S2 M) ∧ w.grownBy wr (some g)) := (by
            have h2 := HI.out
            rw [show i - 1 - a = i - m by have := HL.out; omega] at h2
            refine ⟨⟨_, by simpa using h2.1, ?_, HM.out⟩, h2.2⟩
            refine List.perm_middle.trans ?_
            rw [List.take_append_drop]
            exact List.Perm.refl _ : _ ∧ _)
          clear HI
          go_wp2
          refine bodyPost_ret (results_none rfl _ _ _) rfl ?_
          exact ⟨rfl, HE.out⟩
end Go.Proofs.YtphjbbbnbmafnaaGreatDoor.G

namespace Go.Proofs.YtphjbbbnbmafnaaGreatDoor.G
open Go.RowKit

set_option maxHeartbeats 8000000 in
set_option maxRecDepth 100000 in
theorem symm_two (X A Y : List E3) (y : E3) (a m b N g cap : Nat) (w : World) (h : RowE w g cap (X ++ A ++ [y] ++ Y)) (ha : X.length = a) (hm : a + A.length = m) (hA2 : 2 ≤ A.length) (hb : m + 1 = b) (hN : b + Y.length = N) (hl : N ≤ 1000000) (hS : Gm.S2 A) (hbef : ∀ z ∈ A, Gm.ltE z y = true) :
    Calls Tryz.prog 207 #[.slice (some ⟨g, 0, none⟩) N cap, .int .i64 (a : Int), .int .i64 (m : Int), .int .i64 (b : Int), .func (.func 106) #[] #[]] w fun e w' => e = .returned (.tuple #[]) ∧ (∃ M, RowE w' g cap (X ++ M ++ Y) ∧ M.Perm (A ++ [y]) ∧ Gm.S2 M) ∧ w.grownBy w' (some g) := by
  have hma : ((m : Int) - (a : Int) == 1) = false := by simpa using (by omega : ¬ (m : Int) - (a : Int) = 1)
  have hmb : ((b : Int) - (m : Int) == 1) = true := by simpa using (by omega : (b : Int) - (m : Int) = 1)
  have H0 : Hid _ := h
  have HS : Hid _ := hS
  have HB : Hid _ := hbef
  have HL : Hid _ := And.intro ha (And.intro hm (And.intro hb hN))
  have hym : (X ++ A ++ [y] ++ Y)[m]? = some y := by
    rw [List.getElem?_append_left (by simp; omega), List.getElem?_append_right (by simp; omega), show m - (X ++ A).length = 0 by simp; omega]; rfl
  have hAat : ∀ t z, A[t]? = some z → (X ++ A ++ [y] ++ Y)[a + t]? = some z := fun t z hz => by
    have ht := len_of hz
    rw [List.getElem?_append_left (by simp; omega), List.getElem?_append_left (by simp; omega), List.getElem?_append_right (by omega)]
    rw [show a + t - X.length = t by omega]; exact hz
  have HAA : Hid _ := hAat
  have HYM : Hid _ := hym
  have ham : a ≤ m := by omega
  have hmN : m < N := by omega
  have hbN : b ≤ N := by omega
  clear h hS hbef ha hm hb hN hAat hym hA2
  go_enter Tryz.func207, Tryz.ntmps207
  go_wp2
  go_loopw [14, 15] (fun si sj wr => ∃ i j : Nat, a ≤ i ∧ i ≤ j ∧ j ≤ m ∧ si = .int .i64 (i : Int) ∧ sj = .int .i64 (j : Int) ∧ Hid (RowE wr g cap (X ++ A ++ [y] ++ Y) ∧ w.grownBy wr (some g) ∧ (∀ t z, A[t]? = some z → a + t < i → z.2.1 ≤ y.2.1) ∧ (∀ t z, A[t]? = some z → j ≤ a + t → y.2.1 < z.2.1))) (fun si sj _ => (intOf sj).toNat - (intOf si).toNat)
  case atStart => exact ⟨a, m, Nat.le_refl _, ham, Nat.le_refl _, rfl, rfl, H0.out, ⟨rfl, rfl, rfl, Nat.le_refl _, fun _ _ _ => rfl⟩, fun t z _ h2 => by omega, fun t z hz h2 => by have := len_of hz; have := HL.out; omega⟩
  case round =>
    obtain ⟨i, j, hi1, hij, hjb, rfl, rfl, HI⟩ := hrel
    by_cases hlt : i < j
    · obtain ⟨q, hq⟩ : ∃ q, q = (i + j) / 2 := ⟨_, rfl⟩
      have hh : ((i : Int) + (j : Int)) / 2 = (q : Int) := by omega
      have hqi : i ≤ q := by omega
      have hqj : q < j := by omega
      obtain ⟨z, hz⟩ : ∃ z, A[q - a]? = some z := ⟨_, List.getElem?_eq_getElem (by have := HL.out; omega)⟩
      have hzq := HAA.out _ _ hz
      rw [show a + (q - a) = q by omega] at hzq
      obtain ⟨c0, c1, c2⟩ := HI.out.1.cells hzq
      obtain ⟨d0, d1, d2⟩ := HI.out.1.cells HYM.out
      have HZ : Hid _ := hz
      clear hz hzq hq
      have HX : Hid (RowE wr g cap (X ++ A ++ [y] ++ Y) ∧ w.grownBy wr (some g)) := (⟨HI.out.1, HI.out.2.1⟩ : _ ∧ _)
      have HP : Hid ((∀ t z, A[t]? = some z → a + t < i → z.2.1 ≤ y.2.1) ∧ (∀ t z, A[t]? = some z → j ≤ a + t → y.2.1 < z.2.1)) := HI.out.2.2
      clear HI
      have hqN : q < N := by omega
      obtain ⟨y1, y2, y3⟩ := y
      obtain ⟨z1, z2, z3⟩ := z
      dsimp only at c0 c1 c2 d0 d1 d2
      have HC : ∀ W, Hid (Calls Tryz.prog 106 _ W _) := fun W => cmplab_any y1 y2 y3 z1 z2 z3 W
      have hci := cmpI_lt y2 z2
      by_cases hc : y2 < z2
      · have hcl : decide (Lib.compareInt y2 z2 < 0) = true := decide_eq_true (hci.2 hc)
        clear hci
        go_upto_region 17 with fail
        go_region_held (fun w' => w'.cell? ⟨g, m * 3, none⟩ = some (.int .i64 y1) ∧ w'.cell? ⟨g, m * 3 + 1, none⟩ = some (.int .i64 y2) ∧ w'.cell? ⟨g, m * 3 + 2, none⟩ = some (.int .i64 y3) ∧ w'.cell? ⟨g, q * 3, none⟩ = some (.int .i64 z1) ∧ w'.cell? ⟨g, q * 3 + 1, none⟩ = some (.int .i64 z2) ∧ w'.cell? ⟨g, q * 3 + 2, none⟩ = some (.int .i64 z3)) (refine ⟨?_, ?_, ?_, ?_, ?_, ?_⟩ <;> (repeat (first | assumption | apply cell_dr | apply cell_al)))
          (first
            | (go_at_call 106; refine (Calls.mono (HC _).out ?_); rintro e w' ⟨rfl, rfl⟩))
        have H2 : Hid _ := two_new HX.out (.cells #[.int .i64 y1, .int .i64 y2, .int .i64 y3] 38) (.cells #[.int .i64 z1, .int .i64 z2, .int .i64 z3] 38)
        clear c0 c1 c2 d0 d1 d2
        revert H2
        generalize (wr.alloc _).alloc _ = W2
        intro H2
        go_wp2
        go_roundw
        case rel => exact ⟨i, q, by omega, by omega, by omega, rfl, by go_num, H2.out.1, gb_dn1 H2.out.2, HP.out.1, fun t u hu h2 => by
          have := s2_lab HS.out HZ.out hu (by omega)
          have h3 : z2 ≤ u.2.1 := this
          show y2 < u.2.1
          omega⟩
        case measure => simp [intOf]; omega
      · have hcl : decide (Lib.compareInt y2 z2 < 0) = false := decide_eq_false (fun h => hc (hci.1 h))
        clear hci
        go_upto_region 17 with fail
        go_region_held (fun w' => w'.cell? ⟨g, m * 3, none⟩ = some (.int .i64 y1) ∧ w'.cell? ⟨g, m * 3 + 1, none⟩ = some (.int .i64 y2) ∧ w'.cell? ⟨g, m * 3 + 2, none⟩ = some (.int .i64 y3) ∧ w'.cell? ⟨g, q * 3, none⟩ = some (.int .i64 z1) ∧ w'.cell? ⟨g, q * 3 + 1, none⟩ = some (.int .i64 z2) ∧ w'.cell? ⟨g, q * 3 + 2, none⟩ = some (.int .i64 z3)) (refine ⟨?_, ?_, ?_, ?_, ?_, ?_⟩ <;> (repeat (first | assumption | apply cell_dr | apply cell_al)))
          (first
            | (go_at_call 106; refine (Calls.mono (HC _).out ?_); rintro e w' ⟨rfl, rfl⟩))
        have H2 : Hid _ := two_new HX.out (.cells #[.int .i64 y1, .int .i64 y2, .int .i64 y3] 38) (.cells #[.int .i64 z1, .int .i64 z2, .int .i64 z3] 38)
        clear c0 c1 c2 d0 d1 d2
        revert H2
        generalize (wr.alloc _).alloc _ = W2
        intro H2
        go_wp2
        go_roundw
        case rel => exact ⟨q + 1, j, by omega, by omega, hjb, by go_num, rfl, H2.out.1, gb_dn1 H2.out.2, fun t u hu h2 => by
          have := s2_lab HS.out hu HZ.out (by omega)
          have h3 : u.2.1 ≤ z2 := this
          show u.2.1 ≤ y2
          omega, HP.out.2⟩
        case measure => simp [intOf]; omega
    · obtain rfl : i = j := by omega
      have HM : Hid (Gm.S2 (A.take (i - a) ++ y :: A.drop (i - a))) := (by
        refine Gm.s2_between _ _ y (by rw [List.take_append_drop]; exact HS.out) (fun z hz => ?_) (fun z hz => ?_)
        · obtain ⟨t, ht, hzt⟩ := mem_drop_at hz
          exact ((Gm.lt2_late y z (HB.out z (List.mem_of_getElem? hzt))).1).2 (HI.out.2.2.2 t z hzt (by omega))
        · obtain ⟨t, ht, hzt⟩ := mem_take_at hz
          have := HI.out.2.2.1 t z hzt (by omega)
          exact ((Gm.lt2_late y z (HB.out z (List.mem_of_getElem? hzt))).2).2 (by omega) : Gm.S2 _)
      have HK0 : Hid (RowE wr g cap (X ++ A.take (m - a) ++ y :: A.drop (m - a) ++ Y) ∧ w.grownBy wr (some g)) := (by
        have hLo := HL.out
        rw [List.take_of_length_le (by omega), List.drop_eq_nil_of_le (by omega)]
        exact ⟨by simpa using HI.out.1, HI.out.2.1⟩ : _ ∧ _)
      clear HI
      go_wp2
      go_loopw [17] (fun sk wr => ∃ k : Nat, i ≤ k ∧ k ≤ m ∧ sk = .int .i64 (k : Int) ∧ Hid (RowE wr g cap (X ++ A.take (k - a) ++ y :: A.drop (k - a) ++ Y) ∧ w.grownBy wr (some g))) (fun sk _ => (intOf sk).toNat)
      case atStart => exact ⟨m, by omega, Nat.le_refl _, rfl, HK0.out⟩
      case round =>
        obtain ⟨k, hk1, hk2, rfl, HI⟩ := hrel
        by_cases hlt2 : k > i
        · obtain ⟨p, hp⟩ : ∃ p, k = p + 1 := ⟨k - 1, by omega⟩
          obtain ⟨z, hz⟩ : ∃ z, A[p - a]? = some z := ⟨_, List.getElem?_eq_getElem (by have := HL.out; omega)⟩
          have hPk : (X ++ A.take (p - a)).length = p := by rw [List.length_append, List.length_take]; have := HL.out; have := len_of hz; omega
          have e1 : A.drop (p - a) = z :: A.drop (p - a + 1) := by rw [List.drop_eq_getElem_cons (len_of hz)]; congr 1; rw [List.getElem?_eq_getElem (len_of hz)] at hz; exact Option.some.inj hz
          have e2 : A.take (p - a + 1) = A.take (p - a) ++ [z] := by rw [List.take_add_one, hz]; rfl
          have e3 : k - a = p - a + 1 := by omega
          have hre : X ++ A.take (k - a) ++ y :: A.drop (k - a) ++ Y = (X ++ A.take (p - a)) ++ z :: y :: (A.drop (p - a + 1) ++ Y) := by rw [e3, e2]; simp
          have hR := HI.out.1
          rw [hre] at hR
          have hzk : ((X ++ A.take (p - a)) ++ z :: y :: (A.drop (p - a + 1) ++ Y))[p]? = some z := by
            have := List.getElem?_append_right (l₁ := X ++ A.take (p - a)) (l₂ := z :: y :: (A.drop (p - a + 1) ++ Y)) (i := p) (by omega)
            rw [this, hPk, Nat.sub_self]; rfl
          have hyk : ((X ++ A.take (p - a)) ++ z :: y :: (A.drop (p - a + 1) ++ Y))[k]? = some y := by
            have := List.getElem?_append_right (l₁ := X ++ A.take (p - a)) (l₂ := z :: y :: (A.drop (p - a + 1) ++ Y)) (i := k) (by omega)
            rw [this, hPk, show k - p = 1 by omega]; rfl
          have hsw := swp_back (X ++ A.take (p - a)) (A.drop (p - a + 1) ++ Y) z y
          rw [hPk, ← hp] at hsw
          have hR2 := hR.swp hyk hzk
          rw [hsw] at hR2
          obtain ⟨c0, c1, c2⟩ := hR.cells hyk
          obtain ⟨d0, d1, d2⟩ := hR.cells hzk
          have f0 := hR.frozen (k * 3)
          have f1 := hR.frozen (k * 3 + 1)
          have f2 := hR.frozen (k * 3 + 2)
          have g0 := hR.frozen (p * 3)
          have g1 := hR.frozen (p * 3 + 1)
          have g2 := hR.frozen (p * 3 + 2)
          have HI2 : Hid (RowE _ g cap (X ++ A.take (p - a) ++ y :: A.drop (p - a) ++ Y)) := (by
            rw [e1]
            simpa using hR2 : RowE _ g cap _)
          have HG1 : Hid _ := HI.out.2
          have hne : k ≠ p := by omega
          have hkN : k < N := by omega
          have hpN : p < N := by omega
          have hkI : (k : Int) > (i : Int) := by omega
          have e8 : IntKind.i64.wrap (p : Int) = (p : Int) := by rw [IntKind.wrap_i64]; omega
          have e9 : (k : Int) - 1 = (p : Int) := by omega
          have hip : i ≤ p := by omega
          have HPK : Hid _ := hp
          clear hR hR2 hsw hzk hyk hre e1 e2 e3 hPk hz HI hp
          obtain ⟨y1, y2, y3⟩ := y
          obtain ⟨z1, z2, z3⟩ := z
          dsimp only at c0 c1 c2 d0 d1 d2
          have HG3 : Hid (w.grownBy _ (some g)) := HG1.out.trans (gb_six wr g (k * 3) (k * 3 + 1) (k * 3 + 2) (p * 3) (p * 3 + 1) (p * 3 + 2) (.int .i64 z1) (.int .i64 z2) (.int .i64 z3) (.int .i64 y1) (.int .i64 y2) (.int .i64 y3))
          go_wp2_with fail
          go_region
          clear c0 c1 c2 d0 d1 d2 f0 f1 f2 g0 g1 g2
          revert HG3 HI2
          generalize (((((wr.setCell _ _).setCell _ _).setCell _ _).setCell _ _).setCell _ _).setCell _ _ = W3
          intro HI2 HG3
          go_wp2
          go_roundw
          case rel => exact ⟨p, hip, by omega, rfl, HI2.out, gb_dn1 HG3.out⟩
          case measure => have := HPK.out; simp [intOf]; omega
        · obtain rfl : k = i := by omega
          have HE : Hid ((∃ M, RowE wr g cap (X ++ M ++ Y) ∧ M.Perm (A ++ [y]) ∧ Gm.S2 M) ∧ w.grownBy wr (some g)) := (by
            have h2 := HI.out
            refine ⟨⟨_, by simpa using h2.1, ?_, HM.out⟩, h2.2⟩
            refine List.perm_middle.trans ?_
            rw [List.take_append_drop]
            exact (List.perm_append_comm (l₁ := [y]) (l₂ := A)) : _ ∧ _)
          clear HI
          go_wp2
          refine bodyPost_ret (results_none rfl _ _ _) rfl ?_
          exact ⟨rfl, HE.out⟩
end Go.Proofs.YtphjbbbnbmafnaaGreatDoor.G

namespace Go.Proofs.YtphjbbbnbmafnaaGreatDoor.G
open Go.RowKit

/-- what symMerge is called with -/
def SymP (X A B Y : List E3) (a m b N g cap : Nat) (w : World) : Prop := RowE w g cap (X ++ A ++ B ++ Y) ∧ X.length = a ∧ a + A.length = m ∧ m + B.length = b ∧ b + Y.length = N ∧ Gm.S2 A ∧ Gm.S2 B ∧ (∀ x ∈ A, ∀ y ∈ B, Gm.ltE x y = true) ∧ A ≠ [] ∧ B ≠ []
/-- and what it does -/
def SymC (X A B Y : List E3) (a m b N g cap : Nat) (w : World) : Prop := Calls Tryz.prog 207 #[.slice (some ⟨g, 0, none⟩) N cap, .int .i64 (a : Int), .int .i64 (m : Int), .int .i64 (b : Int), .func (.func 106) #[] #[]] w fun e w' => e = .returned (.tuple #[]) ∧ (∃ M, RowE w' g cap (X ++ M ++ Y) ∧ M.Perm (A ++ B) ∧ Gm.S2 M) ∧ w.grownBy w' (some g)
theorem sym_pure {A B : List E3} {a m b s mid s0 r0 : Nat} (hA : a + A.length = m) (hB : m + B.length = b) (hSA : Gm.S2 A) (hSB : Gm.S2 B) (hbef : ∀ x ∈ A, ∀ y ∈ B, Gm.ltE x y = true)
    (hE : a ≤ s0 ∧ r0 ≤ m ∧ r0 ≤ mid ∧ mid + m ≤ s0 + b ∧ (s0 = a ∨ s0 + b = mid + m) ∧ (r0 = m ∨ r0 = mid)) (hs0 : s0 ≤ s) (hr0 : s ≤ r0)
    (P1 : ∀ c x y, s0 ≤ c → c < s → A[c - a]? = some x → B[mid + m - 1 - c - m]? = some y → x.2.1 ≤ y.2.1) (P2 : ∀ c x y, s ≤ c → c < r0 → A[c - a]? = some x → B[mid + m - 1 - c - m]? = some y → y.2.1 < x.2.1)
    (M1 M2 : List E3) (p1 : M1.Perm (A.take (s - a) ++ B.take (mid - s))) (p2 : M2.Perm (A.drop (s - a) ++ B.drop (mid - s))) (s1 : Gm.S2 M1) (s2 : Gm.S2 M2) : Gm.S2 (M1 ++ M2) ∧ (M1 ++ M2).Perm (A ++ B) := by
  have eA := List.take_append_drop (s - a) A
  have eB := List.take_append_drop (mid - s) B
  constructor
  · refine Gm.s2_halves (A.take (s - a)) (A.drop (s - a)) (B.take (mid - s)) (B.drop (mid - s)) M1 M2 (by rw [eA]; exact hSA) (by rw [eB]; exact hSB) (by rw [eA, eB]; exact hbef) (fun x hx y hy => ?_) (fun y hy x hx => ?_) p1 p2 s1 s2
    · obtain ⟨t, ht, hxt⟩ := mem_take_at hx
      obtain ⟨u, hu, hyu⟩ := mem_drop_at hy
      have hxl := len_of hxt
      have hyl := len_of hyu
      rcases Nat.lt_or_ge s0 s with hlt | hge
      · obtain ⟨x', hx'⟩ : ∃ x', A[s - 1 - a]? = some x' := ⟨_, List.getElem?_eq_getElem (by omega)⟩
        obtain ⟨y', hy'⟩ : ∃ y', B[mid - s]? = some y' := ⟨_, List.getElem?_eq_getElem (by omega)⟩
        have k1 := P1 (s - 1) x' y' (by omega) (by omega) hx' (by rw [show mid + m - 1 - (s - 1) - m = mid - s by omega]; exact hy')
        have k2 := s2_lab hSA hxt hx' (by omega)
        have k3 := s2_lab hSB hy' hyu (by omega)
        omega
      · omega
    · obtain ⟨t, ht, hyt⟩ := mem_take_at hy
      obtain ⟨u, hu, hxu⟩ := mem_drop_at hx
      have hyl := len_of hyt
      have hxl := len_of hxu
      rcases Nat.lt_or_ge s r0 with hlt | hge
      · obtain ⟨x', hx'⟩ : ∃ x', A[s - a]? = some x' := ⟨_, List.getElem?_eq_getElem (by omega)⟩
        obtain ⟨y', hy'⟩ : ∃ y', B[mid - 1 - s]? = some y' := ⟨_, List.getElem?_eq_getElem (by omega)⟩
        have k1 := P2 s x' y' (by omega) (by omega) hx' (by rw [show mid + m - 1 - s - m = mid - 1 - s by omega]; exact hy')
        have k2 := s2_lab hSA hx' hxu (by omega)
        have k3 := s2_lab hSB hyt hy' (by omega)
        omega
      · omega
  · have h := Gm.perm4 (A.take (s - a)) (A.drop (s - a)) (B.take (mid - s)) (B.drop (mid - s)) M1 M2 p1 p2
    rw [eA, eB] at h
    exact h
set_option maxHeartbeats 16000000 in
set_option maxRecDepth 100000 in
theorem symm_gen (X A B Y : List E3) (a m b N g cap : Nat) (w : World) (h : SymP X A B Y a m b N g cap w) (hA2 : 2 ≤ A.length) (hB2 : 2 ≤ B.length) (hl : N ≤ 1000000)
    (IH : ∀ (X' A' B' Y' : List E3) (a' m' b' : Nat) (w' : World), A'.length + B'.length < A.length + B.length → SymP X' A' B' Y' a' m' b' N g cap w' → SymC X' A' B' Y' a' m' b' N g cap w') : SymC X A B Y a m b N g cap w := by
  obtain ⟨hR, ha, hm, hb, hN, hSA, hSB, hbef, _, _⟩ := h
  have hma : ((m : Int) - (a : Int) == 1) = false := by simpa using (by omega : ¬ (m : Int) - (a : Int) = 1)
  have hmb : ((b : Int) - (m : Int) == 1) = false := by simpa using (by omega : ¬ (b : Int) - (m : Int) = 1)
  have H0 : Hid _ := hR
  have HSA : Hid _ := hSA
  have HSB : Hid _ := hSB
  have HB : Hid _ := hbef
  have HL : Hid _ := And.intro ha (And.intro hm (And.intro hb (And.intro hN (And.intro hA2 hB2))))
  have hAat : ∀ t z, A[t]? = some z → (X ++ A ++ B ++ Y)[a + t]? = some z := fun t z hz => by
    have ht := len_of hz
    rw [List.getElem?_append_left (by simp; omega), List.getElem?_append_left (by simp; omega), List.getElem?_append_right (by omega)]
    rw [show a + t - X.length = t by omega]; exact hz
  have hBat : ∀ t z, B[t]? = some z → (X ++ A ++ B ++ Y)[m + t]? = some z := fun t z hz => by
    have ht := len_of hz
    rw [List.getElem?_append_left (by simp; omega), List.getElem?_append_right (by simp; omega)]
    rw [show m + t - (X ++ A).length = t by simp; omega]; exact hz
  have HAA : Hid _ := hAat
  have HBA : Hid _ := hBat
  have HIH : Hid _ := IH
  have ham : a + 2 ≤ m := by omega
  have hmb2 : m + 2 ≤ b := by omega
  have hbN : b ≤ N := by omega
  clear hR ha hm hb hN hSA hSB hbef hAat hBat hA2 hB2 IH
  obtain ⟨mid, hmid⟩ : ∃ mid, mid = (a + b) / 2 := ⟨_, rfl⟩
  have hmidI : ((a : Int) + (b : Int)) / 2 = (mid : Int) := by omega
  obtain ⟨p, hp⟩ : ∃ p, p = mid + m - 1 := ⟨_, rfl⟩
  have hpI : (mid : Int) + (m : Int) - 1 = (p : Int) := by omega
  obtain ⟨s0, hs⟩ : ∃ s0, s0 = (if m > mid then mid + m - b else a) := ⟨_, rfl⟩
  obtain ⟨r0, hr⟩ : ∃ r0, r0 = (if m > mid then mid else m) := ⟨_, rfl⟩
  have hsr : s0 ≤ r0 := by rw [hs, hr]; split <;> omega
  have HC0 : Hid (∀ c, s0 ≤ c → c < r0 → a ≤ c ∧ c < m ∧ m ≤ p - c ∧ p - c < b) := (by
    intro c h1 h2
    rw [hs] at h1; rw [hr] at h2
    split at h1 <;> split at h2 <;> omega : ∀ c, _)
  have HE0 : Hid (a ≤ s0 ∧ r0 ≤ m ∧ r0 ≤ mid ∧ mid + m ≤ s0 + b ∧ (s0 = a ∨ s0 + b = mid + m) ∧ (r0 = m ∨ r0 = mid)) := (by
    rw [hs, hr]; split <;> omega : _ ∧ _)
  have hmidb : mid < b := by omega
  have hamid : a + 2 ≤ mid := by omega
  have hpN : p < 2 * N := by omega
  have HM : Hid (mid = (a + b) / 2 ∧ p = mid + m - 1) := (⟨hmid, hp⟩ : _ ∧ _)
  show Calls Tryz.prog 207 _ _ _
  clear hmid hp
  by_cases hmm : m > mid
  · rw [if_pos hmm] at hs hr
    have hs0I : (mid : Int) + (m : Int) - (b : Int) = (s0 : Int) := by omega
    have HEs : Hid (Value.int .i64 (s0 : Int) = .int .i64 (s0 : Int)) := (rfl : _ = _)
    have HEr : Hid (Value.int .i64 (mid : Int) = .int .i64 (r0 : Int)) := (by rw [hr] : _ = _)
    have hrN : r0 ≤ N := by omega
    clear hs hr
    go_enter Tryz.func207, Tryz.ntmps207
    go_wp2
    go_loopw [20, 21] (fun ss sr wr => ∃ s r : Nat, s0 ≤ s ∧ s ≤ r ∧ r ≤ r0 ∧ ss = .int .i64 (s : Int) ∧ sr = .int .i64 (r : Int) ∧ Hid (RowE wr g cap (X ++ A ++ B ++ Y) ∧ w.grownBy wr (some g) ∧ (∀ c x y, s0 ≤ c → c < s → A[c - a]? = some x → B[p - c - m]? = some y → x.2.1 ≤ y.2.1) ∧ (∀ c x y, r ≤ c → c < r0 → A[c - a]? = some x → B[p - c - m]? = some y → y.2.1 < x.2.1))) (fun ss sr _ => (intOf sr).toNat - (intOf ss).toNat)
    case atStart => exact ⟨s0, r0, Nat.le_refl _, hsr, Nat.le_refl _, (by first | rfl | exact HEs.out), (by first | rfl | exact HEr.out), H0.out, ⟨rfl, rfl, rfl, Nat.le_refl _, fun _ _ _ => rfl⟩, fun c x y _ h2 => by omega, fun c x y h1 h2 => by omega⟩
    case round =>
      obtain ⟨s, r, hs0, hsr2, hr0, rfl, rfl, HI⟩ := hrel
      by_cases hlt : s < r
      · obtain ⟨c, hc⟩ : ∃ c, c = (s + r) / 2 := ⟨_, rfl⟩
        have hh : ((s : Int) + (r : Int)) / 2 = (c : Int) := by omega
        have hcs : s ≤ c := by omega
        have hcr : c < r := by omega
        obtain ⟨hca, hcm, hpm, hpb⟩ := HC0.out c (by omega) (by omega)
        obtain ⟨d, hd⟩ : ∃ d, d = p - c := ⟨_, rfl⟩
        have hpc : (p : Int) - (c : Int) = (d : Int) := by omega
        have hdw : IntKind.i64.wrap (d : Int) = (d : Int) := by rw [IntKind.wrap_i64]; omega
        obtain ⟨z, hz⟩ : ∃ z, A[c - a]? = some z := ⟨_, List.getElem?_eq_getElem (by have := HL.out; omega)⟩
        obtain ⟨y, hy⟩ : ∃ y, B[d - m]? = some y := ⟨_, List.getElem?_eq_getElem (by have := HL.out; omega)⟩
        have hzq := HAA.out _ _ hz
        rw [show a + (c - a) = c by omega] at hzq
        have hyq := HBA.out _ _ hy
        rw [show m + (d - m) = d by omega] at hyq
        obtain ⟨c0, c1, c2⟩ := HI.out.1.cells hzq
        obtain ⟨d0, d1, d2⟩ := HI.out.1.cells hyq
        have HZ : Hid _ := And.intro hz hy
        have hcN : c < N := by omega
        have hdN : d < N := by omega
        have HD : Hid _ := And.intro hd (And.intro hpm hpb)
        clear hz hy hzq hyq hc hd hpm hpb
        have HX : Hid (RowE wr g cap (X ++ A ++ B ++ Y) ∧ w.grownBy wr (some g)) := (⟨HI.out.1, HI.out.2.1⟩ : _ ∧ _)
        have HP : Hid ((∀ c x y, s0 ≤ c → c < s → A[c - a]? = some x → B[p - c - m]? = some y → x.2.1 ≤ y.2.1) ∧ (∀ c x y, r ≤ c → c < r0 → A[c - a]? = some x → B[p - c - m]? = some y → y.2.1 < x.2.1)) := HI.out.2.2
        clear HI
        obtain ⟨y1, y2, y3⟩ := y
        obtain ⟨z1, z2, z3⟩ := z
        dsimp only at c0 c1 c2 d0 d1 d2
        have HC : ∀ W, Hid (Calls Tryz.prog 106 _ W _) := fun W => cmplab_any y1 y2 y3 z1 z2 z3 W
        have hci := cmpI_lt y2 z2
        by_cases hcc : y2 < z2
        · have hcl : decide (Lib.compareInt y2 z2 < 0) = true := decide_eq_true (hci.2 hcc)
          clear hci
          go_upto_region 35 with fail
          go_region_held (fun w' => w'.cell? ⟨g, d * 3, none⟩ = some (.int .i64 y1) ∧ w'.cell? ⟨g, d * 3 + 1, none⟩ = some (.int .i64 y2) ∧ w'.cell? ⟨g, d * 3 + 2, none⟩ = some (.int .i64 y3) ∧ w'.cell? ⟨g, c * 3, none⟩ = some (.int .i64 z1) ∧ w'.cell? ⟨g, c * 3 + 1, none⟩ = some (.int .i64 z2) ∧ w'.cell? ⟨g, c * 3 + 2, none⟩ = some (.int .i64 z3)) (refine ⟨?_, ?_, ?_, ?_, ?_, ?_⟩ <;> (repeat (first | assumption | apply cell_dr | apply cell_al)))
            (first
              | (go_at_call 106; refine (Calls.mono (HC _).out ?_); rintro e w' ⟨rfl, rfl⟩))
          have H2 : Hid _ := two_new HX.out (.cells #[.int .i64 y1, .int .i64 y2, .int .i64 y3] 38) (.cells #[.int .i64 z1, .int .i64 z2, .int .i64 z3] 38)
          clear c0 c1 c2 d0 d1 d2
          revert H2
          generalize (wr.alloc _).alloc _ = W2
          intro H2
          go_wp2
          go_roundw
          case rel => exact ⟨s, c, hs0, by omega, by omega, rfl, rfl, H2.out.1, gb_dn1 H2.out.2, HP.out.1, fun e u v h1 h2 hu hv => by
            have k1 := s2_lab HSA.out HZ.out.1 hu (by omega)
            have k2 := s2_lab HSB.out hv HZ.out.2 (by have := HD.out; omega)
            have k3 : z2 ≤ u.2.1 := k1
            have k4 : v.2.1 ≤ y2 := k2
            omega⟩
          case measure => simp [intOf]; omega
        · have hcl : decide (Lib.compareInt y2 z2 < 0) = false := decide_eq_false (fun h => hcc (hci.1 h))
          clear hci
          go_upto_region 35 with fail
          go_region_held (fun w' => w'.cell? ⟨g, d * 3, none⟩ = some (.int .i64 y1) ∧ w'.cell? ⟨g, d * 3 + 1, none⟩ = some (.int .i64 y2) ∧ w'.cell? ⟨g, d * 3 + 2, none⟩ = some (.int .i64 y3) ∧ w'.cell? ⟨g, c * 3, none⟩ = some (.int .i64 z1) ∧ w'.cell? ⟨g, c * 3 + 1, none⟩ = some (.int .i64 z2) ∧ w'.cell? ⟨g, c * 3 + 2, none⟩ = some (.int .i64 z3)) (refine ⟨?_, ?_, ?_, ?_, ?_, ?_⟩ <;> (repeat (first | assumption | apply cell_dr | apply cell_al)))
            (first
              | (go_at_call 106; refine (Calls.mono (HC _).out ?_); rintro e w' ⟨rfl, rfl⟩))
          have H2 : Hid _ := two_new HX.out (.cells #[.int .i64 y1, .int .i64 y2, .int .i64 y3] 38) (.cells #[.int .i64 z1, .int .i64 z2, .int .i64 z3] 38)
          clear c0 c1 c2 d0 d1 d2
          revert H2
          generalize (wr.alloc _).alloc _ = W2
          intro H2
          go_wp2
          go_roundw
          case rel => exact ⟨c + 1, r, by omega, by omega, hr0, by go_num, rfl, H2.out.1, gb_dn1 H2.out.2, fun e u v h1 h2 hu hv => by
            have k1 := s2_lab HSA.out hu HZ.out.1 (by omega)
            have k2 := s2_lab HSB.out HZ.out.2 hv (by have := HD.out; omega)
            have k3 : u.2.1 ≤ z2 := k1
            have k4 : y2 ≤ v.2.1 := k2
            omega, HP.out.2⟩
          case measure => simp [intOf]; omega
      · obtain rfl : s = r := by omega
        have hp2 := HM.out.2
        have hEo := HE0.out
        obtain ⟨e, he⟩ : ∃ e, e = mid + m - s := ⟨_, rfl⟩
        have heI : (mid : Int) + (m : Int) - (s : Int) = (e : Int) := by omega
        have HH0 : Hid _ := sym_pure (s := s) (mid := mid) (s0 := s0) (r0 := r0) HL.out.2.1 HL.out.2.2.1 HSA.out HSB.out HB.out HE0.out hs0 hr0 (by rw [← hp2]; exact HI.out.2.2.1) (by rw [← hp2]; exact HI.out.2.2.2)
        have eA := List.take_append_drop (s - a) A
        have eB := List.take_append_drop (mid - s) B
        have lA1 : a + (A.take (s - a)).length = s := by rw [List.length_take]; have := HL.out; omega
        have lA2 : s + (A.drop (s - a)).length = m := by rw [List.length_drop]; have := HL.out; omega
        have lB1 : s + (B.take (mid - s)).length = mid := by rw [List.length_take]; have := HL.out; omega
        have lB2 : e + (B.drop (mid - s)).length = b := by rw [List.length_drop]; have := HL.out; omega
        obtain ⟨A1, hA1⟩ : ∃ A1, A1 = A.take (s - a) := ⟨_, rfl⟩
        obtain ⟨A2, hA2⟩ : ∃ A2, A2 = A.drop (s - a) := ⟨_, rfl⟩
        obtain ⟨B1, hB1⟩ : ∃ B1, B1 = B.take (mid - s) := ⟨_, rfl⟩
        obtain ⟨B2, hB2⟩ : ∃ B2, B2 = B.drop (mid - s) := ⟨_, rfl⟩
        rw [← hA1, ← hA2] at eA
        rw [← hB1, ← hB2] at eB
        rw [← hA1] at lA1
        rw [← hA2] at lA2
        rw [← hB1] at lB1
        rw [← hB2] at lB2
        have HH : Hid (∀ M1 M2 : List E3, M1.Perm (A1 ++ B1) → M2.Perm (A2 ++ B2) → Gm.S2 M1 → Gm.S2 M2 → Gm.S2 (M1 ++ M2) ∧ (M1 ++ M2).Perm (A ++ B)) := (by rw [hA1, hA2, hB1, hB2]; exact HH0.out : ∀ M1 M2 : List E3, _)
        have HSs : Hid (Gm.S2 A1 ∧ Gm.S2 A2 ∧ Gm.S2 B1 ∧ Gm.S2 B2 ∧ (∀ x ∈ A1, ∀ y ∈ B1, Gm.ltE x y = true) ∧ (∀ x ∈ A2, ∀ y ∈ B2, Gm.ltE x y = true)) := (by
          rw [hA1, hA2, hB1, hB2]
          exact ⟨HSA.out.sublist (List.take_sublist _ _), HSA.out.sublist (List.drop_sublist _ _), HSB.out.sublist (List.take_sublist _ _), HSB.out.sublist (List.drop_sublist _ _), fun x hx y hy => HB.out x (List.mem_of_mem_take hx) y (List.mem_of_mem_take hy), fun x hx y hy => HB.out x (List.mem_of_mem_drop hx) y (List.mem_of_mem_drop hy)⟩ : _ ∧ _)
        have HLs : Hid (a + A1.length = s ∧ s + A2.length = m ∧ s + B1.length = mid ∧ e + B2.length = b ∧ A.length = A1.length + A2.length ∧ B.length = B1.length + B2.length ∧ e = mid + m - s) := (⟨lA1, lA2, lB1, lB2, by rw [← eA, List.length_append], by rw [← eB, List.length_append], he⟩ : _ ∧ _)
        have HR0 : Hid (RowE wr g cap (X ++ A1 ++ A2 ++ B1 ++ (B2 ++ Y))) := (by
          have h := HI.out.1
          rw [← eA, ← eB] at h
          simpa using h : RowE _ _ _ _)
        have HG0 : Hid (w.grownBy wr (some g)) := HI.out.2.1
        have hsm : s ≤ m := by omega
        have hsmid : s ≤ mid := by omega
        have has : a ≤ s := by omega
        have heb : e ≤ b := by omega
        have hme : m ≤ e := by omega
        have hmide : mid ≤ e := by omega
        have hnse : e + s = mid + m := by omega
        clear HI HH0 eA eB lA1 lA2 lB1 lB2 hA1 hA2 hB1 hB2 hp2 hEo he HSA HSB
        by_cases qA1 : a < s
        · by_cases qA2 : s < m
          · by_cases qB1 : s < mid
            · by_cases qB2 : e < b
              · have f1 : (s : Int) < (m : Int) := by omega
                have f2 : (m : Int) < (e : Int) := by omega
                have f3 : (a : Int) < (s : Int) := by omega
                have f4 : (s : Int) < (mid : Int) := by omega
                have f5 : (mid : Int) < (e : Int) := by omega
                have f6 : (e : Int) < (b : Int) := by omega
                have HC : Hid (Calls Tryz.prog 215 _ wr _) := rot_any (X ++ A1) A2 B1 (B2 ++ Y) s m e N g cap (.func (.func 106) #[] #[]) wr HR0.out (by rw [List.length_append]; have := HL.out; have := HLs.out; omega) (by have := HLs.out; omega) (by have := HLs.out; omega) (by rw [List.length_append]; have := HL.out; have := HLs.out; omega) (fun e => by have := HLs.out; rw [e] at this; simp at this; omega) (fun e => by have := HLs.out; rw [e] at this; simp at this; omega) hl
                go_wp2_with fail
                refine (Calls.mono HC.out ?_)
                rintro e9 w1 ⟨rfl, hr9, hg9⟩
                have HR1 : Hid (RowE w1 g cap (X ++ A1 ++ B1 ++ (A2 ++ (B2 ++ Y)))) := (by simpa using hr9 : RowE _ _ _ _)
                have HG1 : Hid (w.grownBy w1 (some g)) := HG0.out.trans hg9
                clear hr9 hg9 HC
                have HC : Hid (Calls Tryz.prog 207 _ w1 _) := HIH.out X A1 B1 (A2 ++ (B2 ++ Y)) a s mid w1 (by have := HL.out; have := HLs.out; omega) ⟨by simpa using HR1.out, HL.out.1, by have := HLs.out; omega, by have := HLs.out; omega, by simp only [List.length_append]; have := HL.out; have := HLs.out; omega, HSs.out.1, HSs.out.2.2.1, HSs.out.2.2.2.2.1, (fun e => by have := HLs.out; rw [e] at this; simp at this; omega), (fun e => by have := HLs.out; rw [e] at this; simp at this; omega)⟩
                go_wp2_with fail
                refine (Calls.mono HC.out ?_)
                rintro e9 w2 ⟨rfl, ⟨M1, hr9, hp1, hs1⟩, hg9⟩
                have HR2 : Hid (RowE w2 g cap (X ++ M1 ++ (A2 ++ (B2 ++ Y)))) := (by simpa using hr9 : RowE _ _ _ _)
                have HG2 : Hid (w.grownBy w2 (some g)) := HG1.out.trans hg9
                have HM1 : Hid (M1.Perm (A1 ++ B1) ∧ Gm.S2 M1) := And.intro hp1 hs1
                clear hr9 hg9 HC hp1 hs1
                have HC : Hid (Calls Tryz.prog 207 _ w2 _) := HIH.out (X ++ M1) A2 B2 Y mid e b w2 (by have := HL.out; have := HLs.out; omega) ⟨by simpa using HR2.out, by rw [List.length_append, HM1.out.1.length_eq, List.length_append]; have := HL.out; have := HLs.out; omega, by have := HLs.out; omega, by have := HLs.out; omega, by have := HL.out; omega, HSs.out.2.1, HSs.out.2.2.2.1, HSs.out.2.2.2.2.2, (fun e => by have := HLs.out; rw [e] at this; simp at this; omega), (fun e => by have := HLs.out; rw [e] at this; simp at this; omega)⟩
                go_wp2_with fail
                refine (Calls.mono HC.out ?_)
                rintro e9 w3 ⟨rfl, ⟨M2, hr9, hp1, hs1⟩, hg9⟩
                have HE9 : Hid ((∃ M, RowE w3 g cap (X ++ M ++ Y) ∧ M.Perm (A ++ B) ∧ Gm.S2 M) ∧ w.grownBy w3 (some g)) := (by
                  have hh := HH.out M1 M2 HM1.out.1 hp1 HM1.out.2 hs1
                  exact ⟨⟨M1 ++ M2, by simpa using hr9, hh.2, hh.1⟩, HG2.out.trans hg9⟩ : _ ∧ _)
                clear hr9 hg9 HC hp1 hs1
                go_wp2
                all_goals go_end0
                all_goals (first | exact ⟨rfl, HE9.out⟩ | exact ⟨rfl, by simpa using HE9.out⟩)
              · have f1 : (s : Int) < (m : Int) := by omega
                have f2 : (m : Int) < (e : Int) := by omega
                have f3 : (a : Int) < (s : Int) := by omega
                have f4 : (s : Int) < (mid : Int) := by omega
                have f5 : (mid : Int) < (e : Int) := by omega
                have f6 : ¬ (e : Int) < (b : Int) := by omega
                have HC : Hid (Calls Tryz.prog 215 _ wr _) := rot_any (X ++ A1) A2 B1 (B2 ++ Y) s m e N g cap (.func (.func 106) #[] #[]) wr HR0.out (by rw [List.length_append]; have := HL.out; have := HLs.out; omega) (by have := HLs.out; omega) (by have := HLs.out; omega) (by rw [List.length_append]; have := HL.out; have := HLs.out; omega) (fun e => by have := HLs.out; rw [e] at this; simp at this; omega) (fun e => by have := HLs.out; rw [e] at this; simp at this; omega) hl
                go_wp2_with fail
                refine (Calls.mono HC.out ?_)
                rintro e9 w1 ⟨rfl, hr9, hg9⟩
                have HR1 : Hid (RowE w1 g cap (X ++ A1 ++ B1 ++ (A2 ++ (B2 ++ Y)))) := (by simpa using hr9 : RowE _ _ _ _)
                have HG1 : Hid (w.grownBy w1 (some g)) := HG0.out.trans hg9
                clear hr9 hg9 HC
                have HC : Hid (Calls Tryz.prog 207 _ w1 _) := HIH.out X A1 B1 (A2 ++ (B2 ++ Y)) a s mid w1 (by have := HL.out; have := HLs.out; omega) ⟨by simpa using HR1.out, HL.out.1, by have := HLs.out; omega, by have := HLs.out; omega, by simp only [List.length_append]; have := HL.out; have := HLs.out; omega, HSs.out.1, HSs.out.2.2.1, HSs.out.2.2.2.2.1, (fun e => by have := HLs.out; rw [e] at this; simp at this; omega), (fun e => by have := HLs.out; rw [e] at this; simp at this; omega)⟩
                go_wp2_with fail
                refine (Calls.mono HC.out ?_)
                rintro e9 w2 ⟨rfl, ⟨M1, hr9, hp1, hs1⟩, hg9⟩
                have HR2 : Hid (RowE w2 g cap (X ++ M1 ++ (A2 ++ (B2 ++ Y)))) := (by simpa using hr9 : RowE _ _ _ _)
                have HG2 : Hid (w.grownBy w2 (some g)) := HG1.out.trans hg9
                have HM1 : Hid (M1.Perm (A1 ++ B1) ∧ Gm.S2 M1) := And.intro hp1 hs1
                clear hr9 hg9 HC hp1 hs1
                have HE9 : Hid ((∃ M, RowE w2 g cap (X ++ M ++ Y) ∧ M.Perm (A ++ B) ∧ Gm.S2 M) ∧ w.grownBy w2 (some g)) := (by
                  obtain e8 : B2 = [] := List.eq_nil_of_length_eq_zero (by have := HLs.out; omega)
                  have hh := HH.out M1 (A2 ++ B2) HM1.out.1 (List.Perm.refl _) HM1.out.2 (by rw [e8, List.append_nil]; exact HSs.out.2.1)
                  exact ⟨⟨M1 ++ (A2 ++ B2), by simpa using HR2.out, hh.2, hh.1⟩, HG2.out⟩ : _ ∧ _)
                go_wp2
                all_goals go_end0
                all_goals (first | exact ⟨rfl, HE9.out⟩ | exact ⟨rfl, by simpa using HE9.out⟩)
            · by_cases qB2 : e < b
              · have f1 : (s : Int) < (m : Int) := by omega
                have f2 : ¬ (m : Int) < (e : Int) := by omega
                have f3 : (a : Int) < (s : Int) := by omega
                have f4 : ¬ (s : Int) < (mid : Int) := by omega
                have f5 : (mid : Int) < (e : Int) := by omega
                have f6 : (e : Int) < (b : Int) := by omega
                have HR1 : Hid (RowE wr g cap (X ++ A1 ++ B1 ++ (A2 ++ (B2 ++ Y)))) := (by
                  obtain e8 : B1 = [] := List.eq_nil_of_length_eq_zero (by have := HLs.out; omega)
                  have h := HR0.out
                  rw [e8] at h ⊢
                  simpa using h : RowE _ _ _ _)
                have HG1 : Hid (w.grownBy wr (some g)) := HG0.out
                obtain ⟨M1, hM1⟩ : ∃ M1, M1 = A1 ++ B1 := ⟨_, rfl⟩
                have HR2 : Hid (RowE wr g cap (X ++ M1 ++ (A2 ++ (B2 ++ Y)))) := (by rw [hM1]; simpa using HR1.out : RowE _ _ _ _)
                have HG2 : Hid (w.grownBy wr (some g)) := HG1.out
                have HM1 : Hid (M1.Perm (A1 ++ B1) ∧ Gm.S2 M1) := (by
                  rw [hM1]
                  obtain e8 : B1 = [] := List.eq_nil_of_length_eq_zero (by have := HLs.out; omega)
                  exact ⟨List.Perm.refl _, by rw [e8, List.append_nil]; exact HSs.out.1⟩ : _ ∧ _)
                clear hM1
                have HC : Hid (Calls Tryz.prog 207 _ wr _) := HIH.out (X ++ M1) A2 B2 Y mid e b wr (by have := HL.out; have := HLs.out; omega) ⟨by simpa using HR2.out, by rw [List.length_append, HM1.out.1.length_eq, List.length_append]; have := HL.out; have := HLs.out; omega, by have := HLs.out; omega, by have := HLs.out; omega, by have := HL.out; omega, HSs.out.2.1, HSs.out.2.2.2.1, HSs.out.2.2.2.2.2, (fun e => by have := HLs.out; rw [e] at this; simp at this; omega), (fun e => by have := HLs.out; rw [e] at this; simp at this; omega)⟩
                go_wp2_with fail
                refine (Calls.mono HC.out ?_)
                rintro e9 w3 ⟨rfl, ⟨M2, hr9, hp1, hs1⟩, hg9⟩
                have HE9 : Hid ((∃ M, RowE w3 g cap (X ++ M ++ Y) ∧ M.Perm (A ++ B) ∧ Gm.S2 M) ∧ w.grownBy w3 (some g)) := (by
                  have hh := HH.out M1 M2 HM1.out.1 hp1 HM1.out.2 hs1
                  exact ⟨⟨M1 ++ M2, by simpa using hr9, hh.2, hh.1⟩, HG2.out.trans hg9⟩ : _ ∧ _)
                clear hr9 hg9 HC hp1 hs1
                go_wp2
                all_goals go_end0
                all_goals (first | exact ⟨rfl, HE9.out⟩ | exact ⟨rfl, by simpa using HE9.out⟩)
              · exfalso; have := HL.out; have := HLs.out; have := HM.out; omega
          · by_cases qB1 : s < mid
            · by_cases qB2 : e < b
              · have f1 : ¬ (s : Int) < (m : Int) := by omega
                have f2 : (m : Int) < (e : Int) := by omega
                have f3 : (a : Int) < (s : Int) := by omega
                have f4 : (s : Int) < (mid : Int) := by omega
                have f5 : ¬ (mid : Int) < (e : Int) := by omega
                have f6 : (e : Int) < (b : Int) := by omega
                have HR1 : Hid (RowE wr g cap (X ++ A1 ++ B1 ++ (A2 ++ (B2 ++ Y)))) := (by
                  obtain e8 : A2 = [] := List.eq_nil_of_length_eq_zero (by have := HLs.out; omega)
                  have h := HR0.out
                  rw [e8] at h ⊢
                  simpa using h : RowE _ _ _ _)
                have HG1 : Hid (w.grownBy wr (some g)) := HG0.out
                have HC : Hid (Calls Tryz.prog 207 _ wr _) := HIH.out X A1 B1 (A2 ++ (B2 ++ Y)) a s mid wr (by have := HL.out; have := HLs.out; omega) ⟨by simpa using HR1.out, HL.out.1, by have := HLs.out; omega, by have := HLs.out; omega, by simp only [List.length_append]; have := HL.out; have := HLs.out; omega, HSs.out.1, HSs.out.2.2.1, HSs.out.2.2.2.2.1, (fun e => by have := HLs.out; rw [e] at this; simp at this; omega), (fun e => by have := HLs.out; rw [e] at this; simp at this; omega)⟩
                go_wp2_with fail
                refine (Calls.mono HC.out ?_)
                rintro e9 w2 ⟨rfl, ⟨M1, hr9, hp1, hs1⟩, hg9⟩
                have HR2 : Hid (RowE w2 g cap (X ++ M1 ++ (A2 ++ (B2 ++ Y)))) := (by simpa using hr9 : RowE _ _ _ _)
                have HG2 : Hid (w.grownBy w2 (some g)) := HG1.out.trans hg9
                have HM1 : Hid (M1.Perm (A1 ++ B1) ∧ Gm.S2 M1) := And.intro hp1 hs1
                clear hr9 hg9 HC hp1 hs1
                have HE9 : Hid ((∃ M, RowE w2 g cap (X ++ M ++ Y) ∧ M.Perm (A ++ B) ∧ Gm.S2 M) ∧ w.grownBy w2 (some g)) := (by
                  obtain e8 : A2 = [] := List.eq_nil_of_length_eq_zero (by have := HLs.out; omega)
                  have hh := HH.out M1 (A2 ++ B2) HM1.out.1 (List.Perm.refl _) HM1.out.2 (by rw [e8]; exact HSs.out.2.2.2.1)
                  exact ⟨⟨M1 ++ (A2 ++ B2), by simpa using HR2.out, hh.2, hh.1⟩, HG2.out⟩ : _ ∧ _)
                go_wp2
                all_goals go_end0
                all_goals (first | exact ⟨rfl, HE9.out⟩ | exact ⟨rfl, by simpa using HE9.out⟩)
              · exfalso; have := HL.out; have := HLs.out; have := HM.out; omega
            · by_cases qB2 : e < b
              · have f1 : ¬ (s : Int) < (m : Int) := by omega
                have f2 : ¬ (m : Int) < (e : Int) := by omega
                have f3 : (a : Int) < (s : Int) := by omega
                have f4 : ¬ (s : Int) < (mid : Int) := by omega
                have f5 : ¬ (mid : Int) < (e : Int) := by omega
                have f6 : (e : Int) < (b : Int) := by omega
                have HR1 : Hid (RowE wr g cap (X ++ A1 ++ B1 ++ (A2 ++ (B2 ++ Y)))) := (by
                  obtain e8 : A2 = [] := List.eq_nil_of_length_eq_zero (by have := HLs.out; omega)
                  have h := HR0.out
                  rw [e8] at h ⊢
                  simpa using h : RowE _ _ _ _)
                have HG1 : Hid (w.grownBy wr (some g)) := HG0.out
                obtain ⟨M1, hM1⟩ : ∃ M1, M1 = A1 ++ B1 := ⟨_, rfl⟩
                have HR2 : Hid (RowE wr g cap (X ++ M1 ++ (A2 ++ (B2 ++ Y)))) := (by rw [hM1]; simpa using HR1.out : RowE _ _ _ _)
                have HG2 : Hid (w.grownBy wr (some g)) := HG1.out
                have HM1 : Hid (M1.Perm (A1 ++ B1) ∧ Gm.S2 M1) := (by
                  rw [hM1]
                  obtain e8 : B1 = [] := List.eq_nil_of_length_eq_zero (by have := HLs.out; omega)
                  exact ⟨List.Perm.refl _, by rw [e8, List.append_nil]; exact HSs.out.1⟩ : _ ∧ _)
                clear hM1
                have HE9 : Hid ((∃ M, RowE wr g cap (X ++ M ++ Y) ∧ M.Perm (A ++ B) ∧ Gm.S2 M) ∧ w.grownBy wr (some g)) := (by
                  obtain e8 : A2 = [] := List.eq_nil_of_length_eq_zero (by have := HLs.out; omega)
                  have hh := HH.out M1 (A2 ++ B2) HM1.out.1 (List.Perm.refl _) HM1.out.2 (by rw [e8]; exact HSs.out.2.2.2.1)
                  exact ⟨⟨M1 ++ (A2 ++ B2), by simpa using HR2.out, hh.2, hh.1⟩, HG2.out⟩ : _ ∧ _)
                go_wp2
                all_goals go_end0
                all_goals (first | exact ⟨rfl, HE9.out⟩ | exact ⟨rfl, by simpa using HE9.out⟩)
              · exfalso; have := HL.out; have := HLs.out; have := HM.out; omega
        · by_cases qA2 : s < m
          · by_cases qB1 : s < mid
            · by_cases qB2 : e < b
              · have f1 : (s : Int) < (m : Int) := by omega
                have f2 : (m : Int) < (e : Int) := by omega
                have f3 : ¬ (a : Int) < (s : Int) := by omega
                have f4 : (s : Int) < (mid : Int) := by omega
                have f5 : (mid : Int) < (e : Int) := by omega
                have f6 : (e : Int) < (b : Int) := by omega
                have HC : Hid (Calls Tryz.prog 215 _ wr _) := rot_any (X ++ A1) A2 B1 (B2 ++ Y) s m e N g cap (.func (.func 106) #[] #[]) wr HR0.out (by rw [List.length_append]; have := HL.out; have := HLs.out; omega) (by have := HLs.out; omega) (by have := HLs.out; omega) (by rw [List.length_append]; have := HL.out; have := HLs.out; omega) (fun e => by have := HLs.out; rw [e] at this; simp at this; omega) (fun e => by have := HLs.out; rw [e] at this; simp at this; omega) hl
                go_wp2_with fail
                refine (Calls.mono HC.out ?_)
                rintro e9 w1 ⟨rfl, hr9, hg9⟩
                have HR1 : Hid (RowE w1 g cap (X ++ A1 ++ B1 ++ (A2 ++ (B2 ++ Y)))) := (by simpa using hr9 : RowE _ _ _ _)
                have HG1 : Hid (w.grownBy w1 (some g)) := HG0.out.trans hg9
                clear hr9 hg9 HC
                obtain ⟨M1, hM1⟩ : ∃ M1, M1 = A1 ++ B1 := ⟨_, rfl⟩
                have HR2 : Hid (RowE w1 g cap (X ++ M1 ++ (A2 ++ (B2 ++ Y)))) := (by rw [hM1]; simpa using HR1.out : RowE _ _ _ _)
                have HG2 : Hid (w.grownBy w1 (some g)) := HG1.out
                have HM1 : Hid (M1.Perm (A1 ++ B1) ∧ Gm.S2 M1) := (by
                  rw [hM1]
                  obtain e8 : A1 = [] := List.eq_nil_of_length_eq_zero (by have := HLs.out; omega)
                  exact ⟨List.Perm.refl _, by rw [e8]; exact HSs.out.2.2.1⟩ : _ ∧ _)
                clear hM1
                have HC : Hid (Calls Tryz.prog 207 _ w1 _) := HIH.out (X ++ M1) A2 B2 Y mid e b w1 (by have := HL.out; have := HLs.out; omega) ⟨by simpa using HR2.out, by rw [List.length_append, HM1.out.1.length_eq, List.length_append]; have := HL.out; have := HLs.out; omega, by have := HLs.out; omega, by have := HLs.out; omega, by have := HL.out; omega, HSs.out.2.1, HSs.out.2.2.2.1, HSs.out.2.2.2.2.2, (fun e => by have := HLs.out; rw [e] at this; simp at this; omega), (fun e => by have := HLs.out; rw [e] at this; simp at this; omega)⟩
                go_wp2_with fail
                refine (Calls.mono HC.out ?_)
                rintro e9 w3 ⟨rfl, ⟨M2, hr9, hp1, hs1⟩, hg9⟩
                have HE9 : Hid ((∃ M, RowE w3 g cap (X ++ M ++ Y) ∧ M.Perm (A ++ B) ∧ Gm.S2 M) ∧ w.grownBy w3 (some g)) := (by
                  have hh := HH.out M1 M2 HM1.out.1 hp1 HM1.out.2 hs1
                  exact ⟨⟨M1 ++ M2, by simpa using hr9, hh.2, hh.1⟩, HG2.out.trans hg9⟩ : _ ∧ _)
                clear hr9 hg9 HC hp1 hs1
                go_wp2
                all_goals go_end0
                all_goals (first | exact ⟨rfl, HE9.out⟩ | exact ⟨rfl, by simpa using HE9.out⟩)
              · have f1 : (s : Int) < (m : Int) := by omega
                have f2 : (m : Int) < (e : Int) := by omega
                have f3 : ¬ (a : Int) < (s : Int) := by omega
                have f4 : (s : Int) < (mid : Int) := by omega
                have f5 : (mid : Int) < (e : Int) := by omega
                have f6 : ¬ (e : Int) < (b : Int) := by omega
                have HC : Hid (Calls Tryz.prog 215 _ wr _) := rot_any (X ++ A1) A2 B1 (B2 ++ Y) s m e N g cap (.func (.func 106) #[] #[]) wr HR0.out (by rw [List.length_append]; have := HL.out; have := HLs.out; omega) (by have := HLs.out; omega) (by have := HLs.out; omega) (by rw [List.length_append]; have := HL.out; have := HLs.out; omega) (fun e => by have := HLs.out; rw [e] at this; simp at this; omega) (fun e => by have := HLs.out; rw [e] at this; simp at this; omega) hl
                go_wp2_with fail
                refine (Calls.mono HC.out ?_)
                rintro e9 w1 ⟨rfl, hr9, hg9⟩
                have HR1 : Hid (RowE w1 g cap (X ++ A1 ++ B1 ++ (A2 ++ (B2 ++ Y)))) := (by simpa using hr9 : RowE _ _ _ _)
                have HG1 : Hid (w.grownBy w1 (some g)) := HG0.out.trans hg9
                clear hr9 hg9 HC
                obtain ⟨M1, hM1⟩ : ∃ M1, M1 = A1 ++ B1 := ⟨_, rfl⟩
                have HR2 : Hid (RowE w1 g cap (X ++ M1 ++ (A2 ++ (B2 ++ Y)))) := (by rw [hM1]; simpa using HR1.out : RowE _ _ _ _)
                have HG2 : Hid (w.grownBy w1 (some g)) := HG1.out
                have HM1 : Hid (M1.Perm (A1 ++ B1) ∧ Gm.S2 M1) := (by
                  rw [hM1]
                  obtain e8 : A1 = [] := List.eq_nil_of_length_eq_zero (by have := HLs.out; omega)
                  exact ⟨List.Perm.refl _, by rw [e8]; exact HSs.out.2.2.1⟩ : _ ∧ _)
                clear hM1
                have HE9 : Hid ((∃ M, RowE w1 g cap (X ++ M ++ Y) ∧ M.Perm (A ++ B) ∧ Gm.S2 M) ∧ w.grownBy w1 (some g)) := (by
                  obtain e8 : B2 = [] := List.eq_nil_of_length_eq_zero (by have := HLs.out; omega)
                  have hh := HH.out M1 (A2 ++ B2) HM1.out.1 (List.Perm.refl _) HM1.out.2 (by rw [e8, List.append_nil]; exact HSs.out.2.1)
                  exact ⟨⟨M1 ++ (A2 ++ B2), by simpa using HR2.out, hh.2, hh.1⟩, HG2.out⟩ : _ ∧ _)
                go_wp2
                all_goals go_end0
                all_goals (first | exact ⟨rfl, HE9.out⟩ | exact ⟨rfl, by simpa using HE9.out⟩)
            · by_cases qB2 : e < b
              · exfalso; have := HL.out; have := HLs.out; have := HM.out; omega
              · exfalso; have := HL.out; have := HLs.out; have := HM.out; omega
          · by_cases qB1 : s < mid
            · by_cases qB2 : e < b
              · exfalso; have := HL.out; have := HLs.out; have := HM.out; omega
              · exfalso; have := HL.out; have := HLs.out; have := HM.out; omega
            · by_cases qB2 : e < b
              · exfalso; have := HL.out; have := HLs.out; have := HM.out; omega
              · exfalso; have := HL.out; have := HLs.out; have := HM.out; omega
  · rw [if_neg hmm] at hs hr
    have HEs : Hid (Value.int .i64 (a : Int) = .int .i64 (s0 : Int)) := (by rw [hs] : _ = _)
    have HEr : Hid (Value.int .i64 (m : Int) = .int .i64 (r0 : Int)) := (by rw [hr] : _ = _)
    have hrN : r0 ≤ N := by omega
    clear hs hr
    go_enter Tryz.func207, Tryz.ntmps207
    go_wp2
    go_loopw [20, 21] (fun ss sr wr => ∃ s r : Nat, s0 ≤ s ∧ s ≤ r ∧ r ≤ r0 ∧ ss = .int .i64 (s : Int) ∧ sr = .int .i64 (r : Int) ∧ Hid (RowE wr g cap (X ++ A ++ B ++ Y) ∧ w.grownBy wr (some g) ∧ (∀ c x y, s0 ≤ c → c < s → A[c - a]? = some x → B[p - c - m]? = some y → x.2.1 ≤ y.2.1) ∧ (∀ c x y, r ≤ c → c < r0 → A[c - a]? = some x → B[p - c - m]? = some y → y.2.1 < x.2.1))) (fun ss sr _ => (intOf sr).toNat - (intOf ss).toNat)
    case atStart => exact ⟨s0, r0, Nat.le_refl _, hsr, Nat.le_refl _, (by first | rfl | exact HEs.out), (by first | rfl | exact HEr.out), H0.out, ⟨rfl, rfl, rfl, Nat.le_refl _, fun _ _ _ => rfl⟩, fun c x y _ h2 => by omega, fun c x y h1 h2 => by omega⟩
    case round =>
      obtain ⟨s, r, hs0, hsr2, hr0, rfl, rfl, HI⟩ := hrel
      by_cases hlt : s < r
      · obtain ⟨c, hc⟩ : ∃ c, c = (s + r) / 2 := ⟨_, rfl⟩
        have hh : ((s : Int) + (r : Int)) / 2 = (c : Int) := by omega
        have hcs : s ≤ c := by omega
        have hcr : c < r := by omega
        obtain ⟨hca, hcm, hpm, hpb⟩ := HC0.out c (by omega) (by omega)
        obtain ⟨d, hd⟩ : ∃ d, d = p - c := ⟨_, rfl⟩
        have hpc : (p : Int) - (c : Int) = (d : Int) := by omega
        have hdw : IntKind.i64.wrap (d : Int) = (d : Int) := by rw [IntKind.wrap_i64]; omega
        obtain ⟨z, hz⟩ : ∃ z, A[c - a]? = some z := ⟨_, List.getElem?_eq_getElem (by have := HL.out; omega)⟩
        obtain ⟨y, hy⟩ : ∃ y, B[d - m]? = some y := ⟨_, List.getElem?_eq_getElem (by have := HL.out; omega)⟩
        have hzq := HAA.out _ _ hz
        rw [show a + (c - a) = c by omega] at hzq
        have hyq := HBA.out _ _ hy
        rw [show m + (d - m) = d by omega] at hyq
        obtain ⟨c0, c1, c2⟩ := HI.out.1.cells hzq
        obtain ⟨d0, d1, d2⟩ := HI.out.1.cells hyq
        have HZ : Hid _ := And.intro hz hy
        have hcN : c < N := by omega
        have hdN : d < N := by omega
        have HD : Hid _ := And.intro hd (And.intro hpm hpb)
        clear hz hy hzq hyq hc hd hpm hpb
        have HX : Hid (RowE wr g cap (X ++ A ++ B ++ Y) ∧ w.grownBy wr (some g)) := (⟨HI.out.1, HI.out.2.1⟩ : _ ∧ _)
        have HP : Hid ((∀ c x y, s0 ≤ c → c < s → A[c - a]? = some x → B[p - c - m]? = some y → x.2.1 ≤ y.2.1) ∧ (∀ c x y, r ≤ c → c < r0 → A[c - a]? = some x → B[p - c - m]? = some y → y.2.1 < x.2.1)) := HI.out.2.2
        clear HI
        obtain ⟨y1, y2, y3⟩ := y
        obtain ⟨z1, z2, z3⟩ := z
        dsimp only at c0 c1 c2 d0 d1 d2
        have HC : ∀ W, Hid (Calls Tryz.prog 106 _ W _) := fun W => cmplab_any y1 y2 y3 z1 z2 z3 W
        have hci := cmpI_lt y2 z2
        by_cases hcc : y2 < z2
        · have hcl : decide (Lib.compareInt y2 z2 < 0) = true := decide_eq_true (hci.2 hcc)
          clear hci
          go_upto_region 35 with fail
          go_region_held (fun w' => w'.cell? ⟨g, d * 3, none⟩ = some (.int .i64 y1) ∧ w'.cell? ⟨g, d * 3 + 1, none⟩ = some (.int .i64 y2) ∧ w'.cell? ⟨g, d * 3 + 2, none⟩ = some (.int .i64 y3) ∧ w'.cell? ⟨g, c * 3, none⟩ = some (.int .i64 z1) ∧ w'.cell? ⟨g, c * 3 + 1, none⟩ = some (.int .i64 z2) ∧ w'.cell? ⟨g, c * 3 + 2, none⟩ = some (.int .i64 z3)) (refine ⟨?_, ?_, ?_, ?_, ?_, ?_⟩ <;> (repeat (first | assumption | apply cell_dr | apply cell_al)))
            (first
              | (go_at_call 106; refine (Calls.mono (HC _).out ?_); rintro e w' ⟨rfl, rfl⟩))
          have H2 : Hid _ := two_new HX.out (.cells #[.int .i64 y1, .int .i64 y2, .int .i64 y3] 38) (.cells #[.int .i64 z1, .int .i64 z2, .int .i64 z3] 38)
          clear c0 c1 c2 d0 d1 d2
          revert H2
          generalize (wr.alloc _).alloc _ = W2
          intro H2
          go_wp2
          go_roundw
          case rel => exact ⟨s, c, hs0, by omega, by omega, rfl, rfl, H2.out.1, gb_dn1 H2.out.2, HP.out.1, fun e u v h1 h2 hu hv => by
            have k1 := s2_lab HSA.out HZ.out.1 hu (by omega)
            have k2 := s2_lab HSB.out hv HZ.out.2 (by have := HD.out; omega)
            have k3 : z2 ≤ u.2.1 := k1
            have k4 : v.2.1 ≤ y2 := k2
            omega⟩
          case measure => simp [intOf]; omega
        · have hcl : decide (Lib.compareInt y2 z2 < 0) = false := decide_eq_false (fun h => hcc (hci.1 h))
          clear hci
          go_upto_region 35 with fail
          go_region_held (fun w' => w'.cell? ⟨g, d * 3, none⟩ = some (.int .i64 y1) ∧ w'.cell? ⟨g, d * 3 + 1, none⟩ = some (.int .i64 y2) ∧ w'.cell? ⟨g, d * 3 + 2, none⟩ = some (.int .i64 y3) ∧ w'.cell? ⟨g, c * 3, none⟩ = some (.int .i64 z1) ∧ w'.cell? ⟨g, c * 3 + 1, none⟩ = some (.int .i64 z2) ∧ w'.cell? ⟨g, c * 3 + 2, none⟩ = some (.int .i64 z3)) (refine ⟨?_, ?_, ?_, ?_, ?_, ?_⟩ <;> (repeat (first | assumption | apply cell_dr | apply cell_al)))
            (first
              | (go_at_call 106; refine (Calls.mono (HC _).out ?_); rintro e w' ⟨rfl, rfl⟩))
          have H2 : Hid _ := two_new HX.out (.cells #[.int .i64 y1, .int .i64 y2, .int .i64 y3] 38) (.cells #[.int .i64 z1, .int .i64 z2, .int .i64 z3] 38)
          clear c0 c1 c2 d0 d1 d2
          revert H2
          generalize (wr.alloc _).alloc _ = W2
          intro H2
          go_wp2
          go_roundw
          case rel => exact ⟨c + 1, r, by omega, by omega, hr0, by go_num, rfl, H2.out.1, gb_dn1 H2.out.2, fun e u v h1 h2 hu hv => by
            have k1 := s2_lab HSA.out hu HZ.out.1 (by omega)
            have k2 := s2_lab HSB.out HZ.out.2 hv (by have := HD.out; omega)
            have k3 : u.2.1 ≤ z2 := k1
            have k4 : y2 ≤ v.2.1 := k2
            omega, HP.out.2⟩
          case measure => simp [intOf]; omega
      · obtain rfl : s = r := by omega
        have hp2 := HM.out.2
        have hEo := HE0.out
        obtain ⟨e, he⟩ : ∃ e, e = mid + m - s := ⟨_, rfl⟩
        have heI : (mid : Int) + (m : Int) - (s : Int) = (e : Int) := by omega
        have HH0 : Hid _ := sym_pure (s := s) (mid := mid) (s0 := s0) (r0 := r0) HL.out.2.1 HL.out.2.2.1 HSA.out HSB.out HB.out HE0.out hs0 hr0 (by rw [← hp2]; exact HI.out.2.2.1) (by rw [← hp2]; exact HI.out.2.2.2)
        have eA := List.take_append_drop (s - a) A
        have eB := List.take_append_drop (mid - s) B
        have lA1 : a + (A.take (s - a)).length = s := by rw [List.length_take]; have := HL.out; omega
        have lA2 : s + (A.drop (s - a)).length = m := by rw [List.length_drop]; have := HL.out; omega
        have lB1 : s + (B.take (mid - s)).length = mid := by rw [List.length_take]; have := HL.out; omega
        have lB2 : e + (B.drop (mid - s)).length = b := by rw [List.length_drop]; have := HL.out; omega
        obtain ⟨A1, hA1⟩ : ∃ A1, A1 = A.take (s - a) := ⟨_, rfl⟩
        obtain ⟨A2, hA2⟩ : ∃ A2, A2 = A.drop (s - a) := ⟨_, rfl⟩
        obtain ⟨B1, hB1⟩ : ∃ B1, B1 = B.take (mid - s) := ⟨_, rfl⟩
        obtain ⟨B2, hB2⟩ : ∃ B2, B2 = B.drop (mid - s) := ⟨_, rfl⟩
        rw [← hA1, ← hA2] at eA
        rw [← hB1, ← hB2] at eB
        rw [← hA1] at lA1
        rw [← hA2] at lA2
        rw [← hB1] at lB1
        rw [← hB2] at lB2
        have HH : Hid (∀ M1 M2 : List E3, M1.Perm (A1 ++ B1) → M2.Perm (A2 ++ B2) → Gm.S2 M1 → Gm.S2 M2 → Gm.S2 (M1 ++ M2) ∧ (M1 ++ M2).Perm (A ++ B)) := (by rw [hA1, hA2, hB1, hB2]; exact HH0.out : ∀ M1 M2 : List E3, _)
        have HSs : Hid (Gm.S2 A1 ∧ Gm.S2 A2 ∧ Gm.S2 B1 ∧ Gm.S2 B2 ∧ (∀ x ∈ A1, ∀ y ∈ B1, Gm.ltE x y = true) ∧ (∀ x ∈ A2, ∀ y ∈ B2, Gm.ltE x y = true)) := (by
          rw [hA1, hA2, hB1, hB2]
          exact ⟨HSA.out.sublist (List.take_sublist _ _), HSA.out.sublist (List.drop_sublist _ _), HSB.out.sublist (List.take_sublist _ _), HSB.out.sublist (List.drop_sublist _ _), fun x hx y hy => HB.out x (List.mem_of_mem_take hx) y (List.mem_of_mem_take hy), fun x hx y hy => HB.out x (List.mem_of_mem_drop hx) y (List.mem_of_mem_drop hy)⟩ : _ ∧ _)
        have HLs : Hid (a + A1.length = s ∧ s + A2.length = m ∧ s + B1.length = mid ∧ e + B2.length = b ∧ A.length = A1.length + A2.length ∧ B.length = B1.length + B2.length ∧ e = mid + m - s) := (⟨lA1, lA2, lB1, lB2, by rw [← eA, List.length_append], by rw [← eB, List.length_append], he⟩ : _ ∧ _)
        have HR0 : Hid (RowE wr g cap (X ++ A1 ++ A2 ++ B1 ++ (B2 ++ Y))) := (by
          have h := HI.out.1
          rw [← eA, ← eB] at h
          simpa using h : RowE _ _ _ _)
        have HG0 : Hid (w.grownBy wr (some g)) := HI.out.2.1
        have hsm : s ≤ m := by omega
        have hsmid : s ≤ mid := by omega
        have has : a ≤ s := by omega
        have heb : e ≤ b := by omega
        have hme : m ≤ e := by omega
        have hmide : mid ≤ e := by omega
        have hnse : e + s = mid + m := by omega
        clear HI HH0 eA eB lA1 lA2 lB1 lB2 hA1 hA2 hB1 hB2 hp2 hEo he HSA HSB
        by_cases qA1 : a < s
        · by_cases qA2 : s < m
          · by_cases qB1 : s < mid
            · by_cases qB2 : e < b
              · have f1 : (s : Int) < (m : Int) := by omega
                have f2 : (m : Int) < (e : Int) := by omega
                have f3 : (a : Int) < (s : Int) := by omega
                have f4 : (s : Int) < (mid : Int) := by omega
                have f5 : (mid : Int) < (e : Int) := by omega
                have f6 : (e : Int) < (b : Int) := by omega
                have HC : Hid (Calls Tryz.prog 215 _ wr _) := rot_any (X ++ A1) A2 B1 (B2 ++ Y) s m e N g cap (.func (.func 106) #[] #[]) wr HR0.out (by rw [List.length_append]; have := HL.out; have := HLs.out; omega) (by have := HLs.out; omega) (by have := HLs.out; omega) (by rw [List.length_append]; have := HL.out; have := HLs.out; omega) (fun e => by have := HLs.out; rw [e] at this; simp at this; omega) (fun e => by have := HLs.out; rw [e] at this; simp at this; omega) hl
                go_wp2_with fail
                refine (Calls.mono HC.out ?_)
                rintro e9 w1 ⟨rfl, hr9, hg9⟩
                have HR1 : Hid (RowE w1 g cap (X ++ A1 ++ B1 ++ (A2 ++ (B2 ++ Y)))) := (by simpa using hr9 : RowE _ _ _ _)
                have HG1 : Hid (w.grownBy w1 (some g)) := HG0.out.trans hg9
                clear hr9 hg9 HC
                have HC : Hid (Calls Tryz.prog 207 _ w1 _) := HIH.out X A1 B1 (A2 ++ (B2 ++ Y)) a s mid w1 (by have := HL.out; have := HLs.out; omega) ⟨by simpa using HR1.out, HL.out.1, by have := HLs.out; omega, by have := HLs.out; omega, by simp only [List.length_append]; have := HL.out; have := HLs.out; omega, HSs.out.1, HSs.out.2.2.1, HSs.out.2.2.2.2.1, (fun e => by have := HLs.out; rw [e] at this; simp at this; omega), (fun e => by have := HLs.out; rw [e] at this; simp at this; omega)⟩
                go_wp2_with fail
                refine (Calls.mono HC.out ?_)
                rintro e9 w2 ⟨rfl, ⟨M1, hr9, hp1, hs1⟩, hg9⟩
                have HR2 : Hid (RowE w2 g cap (X ++ M1 ++ (A2 ++ (B2 ++ Y)))) := (by simpa using hr9 : RowE _ _ _ _)
                have HG2 : Hid (w.grownBy w2 (some g)) := HG1.out.trans hg9
                have HM1 : Hid (M1.Perm (A1 ++ B1) ∧ Gm.S2 M1) := And.intro hp1 hs1
                clear hr9 hg9 HC hp1 hs1
                have HC : Hid (Calls Tryz.prog 207 _ w2 _) := HIH.out (X ++ M1) A2 B2 Y mid e b w2 (by have := HL.out; have := HLs.out; omega) ⟨by simpa using HR2.out, by rw [List.length_append, HM1.out.1.length_eq, List.length_append]; have := HL.out; have := HLs.out; omega, by have := HLs.out; omega, by have := HLs.out; omega, by have := HL.out; omega, HSs.out.2.1, HSs.out.2.2.2.1, HSs.out.2.2.2.2.2, (fun e => by have := HLs.out; rw [e] at this; simp at this; omega), (fun e => by have := HLs.out; rw [e] at this; simp at this; omega)⟩
                go_wp2_with fail
                refine (Calls.mono HC.out ?_)
                rintro e9 w3 ⟨rfl, ⟨M2, hr9, hp1, hs1⟩, hg9⟩
                have HE9 : Hid ((∃ M, RowE w3 g cap (X ++ M ++ Y) ∧ M.Perm (A ++ B) ∧ Gm.S2 M) ∧ w.grownBy w3 (some g)) := (by
                  have hh := HH.out M1 M2 HM1.out.1 hp1 HM1.out.2 hs1
                  exact ⟨⟨M1 ++ M2, by simpa using hr9, hh.2, hh.1⟩, HG2.out.trans hg9⟩ : _ ∧ _)
                clear hr9 hg9 HC hp1 hs1
                go_wp2
                all_goals go_end0
                all_goals (first | exact ⟨rfl, HE9.out⟩ | exact ⟨rfl, by simpa using HE9.out⟩)
              · have f1 : (s : Int) < (m : Int) := by omega
                have f2 : (m : Int) < (e : Int) := by omega
                have f3 : (a : Int) < (s : Int) := by omega
                have f4 : (s : Int) < (mid : Int) := by omega
                have f5 : (mid : Int) < (e : Int) := by omega
                have f6 : ¬ (e : Int) < (b : Int) := by omega
                have HC : Hid (Calls Tryz.prog 215 _ wr _) := rot_any (X ++ A1) A2 B1 (B2 ++ Y) s m e N g cap (.func (.func 106) #[] #[]) wr HR0.out (by rw [List.length_append]; have := HL.out; have := HLs.out; omega) (by have := HLs.out; omega) (by have := HLs.out; omega) (by rw [List.length_append]; have := HL.out; have := HLs.out; omega) (fun e => by have := HLs.out; rw [e] at this; simp at this; omega) (fun e => by have := HLs.out; rw [e] at this; simp at this; omega) hl
                go_wp2_with fail
                refine (Calls.mono HC.out ?_)
                rintro e9 w1 ⟨rfl, hr9, hg9⟩
                have HR1 : Hid (RowE w1 g cap (X ++ A1 ++ B1 ++ (A2 ++ (B2 ++ Y)))) := (by simpa using hr9 : RowE _ _ _ _)
                have HG1 : Hid (w.grownBy w1 (some g)) := HG0.out.trans hg9
                clear hr9 hg9 HC
                have HC : Hid (Calls Tryz.prog 207 _ w1 _) := HIH.out X A1 B1 (A2 ++ (B2 ++ Y)) a s mid w1 (by have := HL.out; have := HLs.out; omega) ⟨by simpa using HR1.out, HL.out.1, by have := HLs.out; omega, by have := HLs.out; omega, by simp only [List.length_append]; have := HL.out; have := HLs.out; omega, HSs.out.1, HSs.out.2.2.1, HSs.out.2.2.2.2.1, (fun e => by have := HLs.out; rw [e] at this; simp at this; omega), (fun e => by have := HLs.out; rw [e] at this; simp at this; omega)⟩
                go_wp2_with fail
                refine (Calls.mono HC.out ?_)
                rintro e9 w2 ⟨rfl, ⟨M1, hr9, hp1, hs1⟩, hg9⟩
                have HR2 : Hid (RowE w2 g cap (X ++ M1 ++ (A2 ++ (B2 ++ Y)))) := (by simpa using hr9 : RowE _ _ _ _)
                have HG2 : Hid (w.grownBy w2 (some g)) := HG1.out.trans hg9
                have HM1 : Hid (M1.Perm (A1 ++ B1) ∧ Gm.S2 M1) := And.intro hp1 hs1
                clear hr9 hg9 HC hp1 hs1
                have HE9 : Hid ((∃ M, RowE w2 g cap (X ++ M ++ Y) ∧ M.Perm (A ++ B) ∧ Gm.S2 M) ∧ w.grownBy w2 (some g)) := (by
                  obtain e8 : B2 = [] := List.eq_nil_of_length_eq_zero (by have := HLs.out; omega)
                  have hh := HH.out M1 (A2 ++ B2) HM1.out.1 (List.Perm.refl _) HM1.out.2 (by rw [e8, List.append_nil]; exact HSs.out.2.1)
                  exact ⟨⟨M1 ++ (A2 ++ B2), by simpa using HR2.out, hh.2, hh.1⟩, HG2.out⟩ : _ ∧ _)
                go_wp2
                all_goals go_end0
                all_goals (first | exact ⟨rfl, HE9.out⟩ | exact ⟨rfl, by simpa using HE9.out⟩)
            · by_cases qB2 : e < b
              · have f1 : (s : Int) < (m : Int) := by omega
                have f2 : ¬ (m : Int) < (e : Int) := by omega
                have f3 : (a : Int) < (s : Int) := by omega
                have f4 : ¬ (s : Int) < (mid : Int) := by omega
                have f5 : (mid : Int) < (e : Int) := by omega
                have f6 : (e : Int) < (b : Int) := by omega
                have HR1 : Hid (RowE wr g cap (X ++ A1 ++ B1 ++ (A2 ++ (B2 ++ Y)))) := (by
                  obtain e8 : B1 = [] := List.eq_nil_of_length_eq_zero (by have := HLs.out; omega)
                  have h := HR0.out
                  rw [e8] at h ⊢
                  simpa using h : RowE _ _ _ _)
                have HG1 : Hid (w.grownBy wr (some g)) := HG0.out
                obtain ⟨M1, hM1⟩ : ∃ M1, M1 = A1 ++ B1 := ⟨_, rfl⟩
                have HR2 : Hid (RowE wr g cap (X ++ M1 ++ (A2 ++ (B2 ++ Y)))) := (by rw [hM1]; simpa using HR1.out : RowE _ _ _ _)
                have HG2 : Hid (w.grownBy wr (some g)) := HG1.out
                have HM1 : Hid (M1.Perm (A1 ++ B1) ∧ Gm.S2 M1) := (by
                  rw [hM1]
                  obtain e8 : B1 = [] := List.eq_nil_of_length_eq_zero (by have := HLs.out; omega)
                  exact ⟨List.Perm.refl _, by rw [e8, List.append_nil]; exact HSs.out.1⟩ : _ ∧ _)
                clear hM1
                have HC : Hid (Calls Tryz.prog 207 _ wr _) := HIH.out (X ++ M1) A2 B2 Y mid e b wr (by have := HL.out; have := HLs.out; omega) ⟨by simpa using HR2.out, by rw [List.length_append, HM1.out.1.length_eq, List.length_append]; have := HL.out; have := HLs.out; omega, by have := HLs.out; omega, by have := HLs.out; omega, by have := HL.out; omega, HSs.out.2.1, HSs.out.2.2.2.1, HSs.out.2.2.2.2.2, (fun e => by have := HLs.out; rw [e] at this; simp at this; omega), (fun e => by have := HLs.out; rw [e] at this; simp at this; omega)⟩
                go_wp2_with fail
                refine (Calls.mono HC.out ?_)
                rintro e9 w3 ⟨rfl, ⟨M2, hr9, hp1, hs1⟩, hg9⟩
                have HE9 : Hid ((∃ M, RowE w3 g cap (X ++ M ++ Y) ∧ M.Perm (A ++ B) ∧ Gm.S2 M) ∧ w.grownBy w3 (some g)) := (by
                  have hh := HH.out M1 M2 HM1.out.1 hp1 HM1.out.2 hs1
                  exact ⟨⟨M1 ++ M2, by simpa using hr9, hh.2, hh.1⟩, HG2.out.trans hg9⟩ : _ ∧ _)
                clear hr9 hg9 HC hp1 hs1
                go_wp2
                all_goals go_end0
                all_goals (first | exact ⟨rfl, HE9.out⟩ | exact ⟨rfl, by simpa using HE9.out⟩)
              · exfalso; have := HL.out; have := HLs.out; have := HM.out; omega
          · by_cases qB1 : s < mid
            · by_cases qB2 : e < b
              · have f1 : ¬ (s : Int) < (m : Int) := by omega
                have f2 : (m : Int) < (e : Int) := by omega
                have f3 : (a : Int) < (s : Int) := by omega
                have f4 : (s : Int) < (mid : Int) := by omega
                have f5 : ¬ (mid : Int) < (e : Int) := by omega
                have f6 : (e : Int) < (b : Int) := by omega
                have HR1 : Hid (RowE wr g cap (X ++ A1 ++ B1 ++ (A2 ++ (B2 ++ Y)))) := (by
                  obtain e8 : A2 = [] := List.eq_nil_of_length_eq_zero (by have := HLs.out; omega)
                  have h := HR0.out
                  rw [e8] at h ⊢
                  simpa using h : RowE _ _ _ _)
                have HG1 : Hid (w.grownBy wr (some g)) := HG0.out
                have HC : Hid (Calls Tryz.prog 207 _ wr _) := HIH.out X A1 B1 (A2 ++ (B2 ++ Y)) a s mid wr (by have := HL.out; have := HLs.out; omega) ⟨by simpa using HR1.out, HL.out.1, by have := HLs.out; omega, by have := HLs.out; omega, by simp only [List.length_append]; have := HL.out; have := HLs.out; omega, HSs.out.1, HSs.out.2.2.1, HSs.out.2.2.2.2.1, (fun e => by have := HLs.out; rw [e] at this; simp at this; omega), (fun e => by have := HLs.out; rw [e] at this; simp at this; omega)⟩
                go_wp2_with fail
                refine (Calls.mono HC.out ?_)
                rintro e9 w2 ⟨rfl, ⟨M1, hr9, hp1, hs1⟩, hg9⟩
                have HR2 : Hid (RowE w2 g cap (X ++ M1 ++ (A2 ++ (B2 ++ Y)))) := (by simpa using hr9 : RowE _ _ _ _)
                have HG2 : Hid (w.grownBy w2 (some g)) := HG1.out.trans hg9
                have HM1 : Hid (M1.Perm (A1 ++ B1) ∧ Gm.S2 M1) := And.intro hp1 hs1
                clear hr9 hg9 HC hp1 hs1
                have HE9 : Hid ((∃ M, RowE w2 g cap (X ++ M ++ Y) ∧ M.Perm (A ++ B) ∧ Gm.S2 M) ∧ w.grownBy w2 (some g)) := (by
                  obtain e8 : A2 = [] := List.eq_nil_of_length_eq_zero (by have := HLs.out; omega)
                  have hh := HH.out M1 (A2 ++ B2) HM1.out.1 (List.Perm.refl _) HM1.out.2 (by rw [e8]; exact HSs.out.2.2.2.1)
                  exact ⟨⟨M1 ++ (A2 ++ B2), by simpa using HR2.out, hh.2, hh.1⟩, HG2.out⟩ : _ ∧ _)
                go_wp2
                all_goals go_end0
                all_goals (first | exact ⟨rfl, HE9.out⟩ | exact ⟨rfl, by simpa using HE9.out⟩)
              · exfalso; have := HL.out; have := HLs.out; have := HM.out; omega
            · by_cases qB2 : e < b
              · have f1 : ¬ (s : Int) < (m : Int) := by omega
                have f2 : ¬ (m : Int) < (e : Int) := by omega
                have f3 : (a : Int) < (s : Int) := by omega
                have f4 : ¬ (s : Int) < (mid : Int) := by omega
                have f5 : ¬ (mid : Int) < (e : Int) := by omega
                have f6 : (e : Int) < (b : Int) := by omega
                have HR1 : Hid (RowE wr g cap (X ++ A1 ++ B1 ++ (A2 ++ (B2 ++ Y)))) := (by
                  obtain e8 : A2 = [] := List.eq_nil_of_length_eq_zero (by have := HLs.out; omega)
                  have h := HR0.out
                  rw [e8] at h ⊢
                  simpa using h : RowE _ _ _ _)
                have HG1 : Hid (w.grownBy wr (some g)) := HG0.out
                obtain ⟨M1, hM1⟩ : ∃ M1, M1 = A1 ++ B1 := ⟨_, rfl⟩
                have HR2 : Hid (RowE wr g cap (X ++ M1 ++ (A2 ++ (B2 ++ Y)))) := (by rw [hM1]; simpa using HR1.out : RowE _ _ _ _)
                have HG2 : Hid (w.grownBy wr (some g)) := HG1.out
                have HM1 : Hid (M1.Perm (A1 ++ B1) ∧ Gm.S2 M1) := (by
                  rw [hM1]
                  obtain e8 : B1 = [] := List.eq_nil_of_length_eq_zero (by have := HLs.out; omega)
                  exact ⟨List.Perm.refl _, by rw [e8, List.append_nil]; exact HSs.out.1⟩ : _ ∧ _)
                clear hM1
                have HE9 : Hid ((∃ M, RowE wr g cap (X ++ M ++ Y) ∧ M.Perm (A ++ B) ∧ Gm.S2 M) ∧ w.grownBy wr (some g)) := (by
                  obtain e8 : A2 = [] := List.eq_nil_of_length_eq_zero (by have := HLs.out; omega)
                  have hh := HH.out M1 (A2 ++ B2) HM1.out.1 (List.Perm.refl _) HM1.out.2 (by rw [e8]; exact HSs.out.2.2.2.1)
                  exact ⟨⟨M1 ++ (A2 ++ B2), by simpa using HR2.out, hh.2, hh.1⟩, HG2.out⟩ : _ ∧ _)
                go_wp2
                all_goals go_end0
                all_goals (first | exact ⟨rfl, HE9.out⟩ | exact ⟨rfl, by simpa using HE9.out⟩)
              · exfalso; have := HL.out; have := HLs.out; have := HM.out; omega
        · by_cases qA2 : s < m
          · by_cases qB1 : s < mid
            · by_cases qB2 : e < b
              · have f1 : (s : Int) < (m : Int) := by omega
                have f2 : (m : Int) < (e : Int) := by omega
                have f3 : ¬ (a : Int) < (s : Int) := by omega
                have f4 : (s : Int) < (mid : Int) := by omega
                have f5 : (mid : Int) < (e : Int) := by omega
                have f6 : (e : Int) < (b : Int) := by omega
                have HC : Hid (Calls Tryz.prog 215 _ wr _) := rot_any (X ++ A1) A2 B1 (B2 ++ Y) s m e N g cap (.func (.func 106) #[] #[]) wr HR0.out (by rw [List.length_append]; have := HL.out; have := HLs.out; omega) (by have := HLs.out; omega) (by have := HLs.out; omega) (by rw [List.length_append]; have := HL.out; have := HLs.out; omega) (fun e => by have := HLs.out; rw [e] at this; simp at this; omega) (fun e => by have := HLs.out; rw [e] at this; simp at this; omega) hl
                go_wp2_with fail
                refine (Calls.mono HC.out ?_)
                rintro e9 w1 ⟨rfl, hr9, hg9⟩
                have HR1 : Hid (RowE w1 g cap (X ++ A1 ++ B1 ++ (A2 ++ (B2 ++ Y)))) := (by simpa using hr9 : RowE _ _ _ _)
                have HG1 : Hid (w.grownBy w1 (some g)) := HG0.out.trans hg9
                clear hr9 hg9 HC
                obtain ⟨M1, hM1⟩ : ∃ M1, M1 = A1 ++ B1 := ⟨_, rfl⟩
                have HR2 : Hid (RowE w1 g cap (X ++ M1 ++ (A2 ++ (B2 ++ Y)))) := (by rw [hM1]; simpa using HR1.out : RowE _ _ _ _)
                have HG2 : Hid (w.grownBy w1 (some g)) := HG1.out
                have HM1 : Hid (M1.Perm (A1 ++ B1) ∧ Gm.S2 M1) := (by
                  rw [hM1]
                  obtain e8 : A1 = [] := List.eq_nil_of_length_eq_zero (by have := HLs.out; omega)
                  exact ⟨List.Perm.refl _, by rw [e8]; exact HSs.out.2.2.1⟩ : _ ∧ _)
                clear hM1
                have HC : Hid (Calls Tryz.prog 207 _ w1 _) := HIH.out (X ++ M1) A2 B2 Y mid e b w1 (by have := HL.out; have := HLs.out; omega) ⟨by simpa using HR2.out, by rw [List.length_append, HM1.out.1.length_eq, List.length_append]; have := HL.out; have := HLs.out; omega, by have := HLs.out; omega, by have := HLs.out; omega, by have := HL.out; omega, HSs.out.2.1, HSs.out.2.2.2.1, HSs.out.2.2.2.2.2, (fun e => by have := HLs.out; rw [e] at this; simp at this; omega), (fun e => by have := HLs.out; rw [e] at this; simp at this; omega)⟩
                go_wp2_with fail
                refine (Calls.mono HC.out ?_)
                rintro e9 w3 ⟨rfl, ⟨M2, hr9, hp1, hs1⟩, hg9⟩
                have HE9 : Hid ((∃ M, RowE w3 g cap (X ++ M ++ Y) ∧ M.Perm (A ++ B) ∧ Gm.S2 M) ∧ w.grownBy w3 (some g)) := (by
                  have hh := HH.out M1 M2 HM1.out.1 hp1 HM1.out.2 hs1
                  exact ⟨⟨M1 ++ M2, by simpa using hr9, hh.2, hh.1⟩, HG2.out.trans hg9⟩ : _ ∧ _)
                clear hr9 hg9 HC hp1 hs1
                go_wp2
                all_goals go_end0
                all_goals (first | exact ⟨rfl, HE9.out⟩ | exact ⟨rfl, by simpa using HE9.out⟩)
              · have f1 : (s : Int) < (m : Int) := by omega
                have f2 : (m : Int) < (e : Int) := by omega
                have f3 : ¬ (a : Int) < (s : Int) := by omega
                have f4 : (s : Int) < (mid : Int) := by omega
                have f5 : (mid : Int) < (e : Int) := by omega
                have f6 : ¬ (e : Int) < (b : Int) := by omega
                have HC : Hid (Calls Tryz.prog 215 _ wr _) := rot_any (X ++ A1) A2 B1 (B2 ++ Y) s m e N g cap (.func (.func 106) #[] #[]) wr HR0.out (by rw [List.length_append]; have := HL.out; have := HLs.out; omega) (by have := HLs.out; omega) (by have := HLs.out; omega) (by rw [List.length_append]; have := HL.out; have := HLs.out; omega) (fun e => by have := HLs.out; rw [e] at this; simp at this; omega) (fun e => by have := HLs.out; rw [e] at this; simp at this; omega) hl
                go_wp2_with fail
                refine (Calls.mono HC.out ?_)
                rintro e9 w1 ⟨rfl, hr9, hg9⟩
                have HR1 : Hid (RowE w1 g cap (X ++ A1 ++ B1 ++ (A2 ++ (B2 ++ Y)))) := (by simpa using hr9 : RowE _ _ _ _)
                have HG1 : Hid (w.grownBy w1 (some g)) := HG0.out.trans hg9
                clear hr9 hg9 HC
                obtain ⟨M1, hM1⟩ : ∃ M1, M1 = A1 ++ B1 := ⟨_, rfl⟩
                have HR2 : Hid (RowE w1 g cap (X ++ M1 ++ (A2 ++ (B2 ++ Y)))) := (by rw [hM1]; simpa using HR1.out : RowE _ _ _ _)
                have HG2 : Hid (w.grownBy w1 (some g)) := HG1.out
                have HM1 : Hid (M1.Perm (A1 ++ B1) ∧ Gm.S2 M1) := (by
                  rw [hM1]
                  obtain e8 : A1 = [] := List.eq_nil_of_length_eq_zero (by have := HLs.out; omega)
                  exact ⟨List.Perm.refl _, by rw [e8]; exact HSs.out.2.2.1⟩ : _ ∧ _)
                clear hM1
                have HE9 : Hid ((∃ M, RowE w1 g cap (X ++ M ++ Y) ∧ M.Perm (A ++ B) ∧ Gm.S2 M) ∧ w.grownBy w1 (some g)) := (by
                  obtain e8 : B2 = [] := List.eq_nil_of_length_eq_zero (by have := HLs.out; omega)
                  have hh := HH.out M1 (A2 ++ B2) HM1.out.1 (List.Perm.refl _) HM1.out.2 (by rw [e8, List.append_nil]; exact HSs.out.2.1)
                  exact ⟨⟨M1 ++ (A2 ++ B2), by simpa using HR2.out, hh.2, hh.1⟩, HG2.out⟩ : _ ∧ _)
                go_wp2
                all_goals go_end0
                all_goals (first | exact ⟨rfl, HE9.out⟩ | exact ⟨rfl, by simpa using HE9.out⟩)
            · by_cases qB2 : e < b
              · exfalso; have := HL.out; have := HLs.out; have := HM.out; omega
              · exfalso; have := HL.out; have := HLs.out; have := HM.out; omega
          · by_cases qB1 : s < mid
            · by_cases qB2 : e < b
              · exfalso; have := HL.out; have := HLs.out; have := HM.out; omega
              · exfalso; have := HL.out; have := HLs.out; have := HM.out; omega
            · by_cases qB2 : e < b
              · exfalso; have := HL.out; have := HLs.out; have := HM.out; omega
              · exfalso; have := HL.out; have := HLs.out; have := HM.out; omega
end Go.Proofs.YtphjbbbnbmafnaaGreatDoor.G

namespace Go.Proofs.YtphjbbbnbmafnaaGreatDoor.G
open Go.RowKit

theorem symm_all : ∀ (n : Nat) (X A B Y : List E3) (a m b N g cap : Nat) (w : World), A.length + B.length ≤ n → N ≤ 1000000 → SymP X A B Y a m b N g cap w → SymC X A B Y a m b N g cap w
  | 0, X, A, B, Y, a, m, b, N, g, cap, w, hn, _, h => by
    exact absurd (List.eq_nil_of_length_eq_zero (by omega : A.length = 0)) h.2.2.2.2.2.2.2.2.1
  | n + 1, X, A, B, Y, a, m, b, N, g, cap, w, hn, hl, h => by
    have hA0 := List.length_pos_iff.2 h.2.2.2.2.2.2.2.2.1
    have hB0 := List.length_pos_iff.2 h.2.2.2.2.2.2.2.2.2
    by_cases h1 : A.length = 1
    · obtain ⟨x, rfl⟩ := List.length_eq_one_iff.1 h1
      obtain ⟨hR, ha, hm, hb, hN, hSA, hSB, hbef, _, _⟩ := h
      exact symm_one X B Y x a m b N g cap w hR ha (by simpa using hm) hb hN hl hSB (fun y hy => hbef x (by simp) y hy)
    · by_cases h2 : B.length = 1
      · obtain ⟨y, rfl⟩ := List.length_eq_one_iff.1 h2
        obtain ⟨hR, ha, hm, hb, hN, hSA, hSB, hbef, _, _⟩ := h
        exact symm_two X A Y y a m b N g cap w hR ha hm (by omega) (by simpa using hb) hN hl hSA (fun z hz => hbef z hz y (by simp))
      · exact symm_gen X A B Y a m b N g cap w h (by omega) (by omega) hl (fun X' A' B' Y' a' m' b' w' hlt hp => symm_all n X' A' B' Y' a' m' b' N g cap w' (by omega) hl hp)
theorem take_two (L : List E3) (a k : Nat) : L.take (a + k) = L.take a ++ (L.drop a).take k := List.take_add
theorem drop_two (L : List E3) (a k : Nat) : (L.drop a).drop k = L.drop (a + k) := by rw [List.drop_drop]
theorem strict_drop {L : List E3} (h : Gm.Strict L) (a : Nat) : Gm.Strict (L.drop a) := List.Pairwise.sublist (List.drop_sublist _ _) h
theorem stab_one {L D1 D' : List E3} {k a b t : Nat} (hB : Gm.Blocks k (L.take a) D1) (ht : a = k * t) (hb : b = a + k) (hbN : a ≤ L.length) (hs : Gm.S2 D') (hp : D'.Perm ((L.drop a).take k)) : Gm.Blocks k (L.take b) (D1 ++ D') := by
  have hl : (L.take a).length = k * t := by rw [List.length_take, ← ht]; exact Nat.min_eq_left hbN
  have hl2 : ((L.drop a).take k).length ≤ k := by rw [List.length_take]; exact Nat.min_le_left _ _
  have h := Gm.blocks_app hB t hl hs hp hl2
  rw [hb, take_two]
  exact h
/-- two blocks of the rest, merged -/
theorem stab_two {L D1 D2 M : List E3} {k a b : Nat} (hB : Gm.Blocks (2 * k) (L.take a) D1) (hB2 : Gm.Blocks k (L.drop a) D2) (ht : ∃ j, a = 2 * k * j) (hb : b = a + 2 * k) (haN : a ≤ L.length) (hs : Gm.S2 M) (hp : M.Perm (D2.take k ++ (D2.drop k).take k)) (hL : Gm.Strict L) : Gm.Blocks (2 * k) (L.take b) (D1 ++ M) ∧ Gm.Blocks k (L.drop b) (D2.drop (2 * k)) := by
  obtain ⟨j, hj⟩ := ht
  have h2 := Gm.blocks_two hB2 (strict_drop hL a)
  constructor
  · refine stab_one hB hj hb haN hs (hp.trans ?_)
    rw [Nat.two_mul, take_two]
    exact h2.2.2.1.append h2.2.2.2.1
  · have h3 := Gm.blocks_drop hB2 2
    rw [drop_two, Nat.mul_comm k 2] at h3
    rw [hb]
    exact h3
theorem stab_last {L D1 M : List E3} {k a : Nat} (hB : Gm.Blocks (2 * k) (L.take a) D1) (ht : ∃ j, a = 2 * k * j) (haN : a ≤ L.length) (hr : L.length ≤ a + 2 * k) (hs : Gm.S2 M) (hp : M.Perm (L.drop a)) : Gm.Blocks (2 * k) L (D1 ++ M) := by
  obtain ⟨j, hj⟩ := ht
  have h := stab_one hB hj rfl haN hs (hp.trans (by rw [List.take_of_length_le (by rw [List.length_drop]; omega)]))
  rw [List.take_of_length_le (by omega)] at h
  exact h
set_option maxHeartbeats 16000000 in
set_option maxRecDepth 100000 in
theorem stable_any (L : List E3) (N g cap : Nat) (w : World) (h : RowE w g cap L) (hL : Gm.Strict L) (hN : L.length = N) (hl : N ≤ 1000000) :
    Calls Tryz.prog 187 #[.slice (some ⟨g, 0, none⟩) N cap, .int .i64 (N : Int), .func (.func 106) #[] #[]] w fun e w' => e = .returned (.tuple #[]) ∧ (∃ R, RowE w' g cap R ∧ R.Perm L ∧ Gm.S2 R) ∧ w.grownBy w' (some g) := by
  have H0 : Hid _ := h
  have HS : Hid _ := hL
  have HN : Hid _ := hN
  clear h hL hN
  go_enter Tryz.func187, Tryz.ntmps187
  go_wp2
  go_loopw [7, 8] (fun sa sb wr => ∃ a b : Nat, sa = .int .i64 (a : Int) ∧ sb = .int .i64 (b : Int) ∧ a ≤ N ∧ b ≤ 2000000 ∧ Hid ((∃ t, a = 20 * t) ∧ b = a + 20 ∧ (∃ D1, RowE wr g cap (D1 ++ L.drop a) ∧ Gm.Blocks 20 (L.take a) D1) ∧ w.grownBy wr (some g))) (fun sa _ _ => N - (intOf sa).toNat)
  case atStart => exact ⟨0, 20, rfl, rfl, Nat.zero_le _, by decide, ⟨0, rfl⟩, rfl, ⟨[], H0.out, Gm.blocks_nil 20⟩, ⟨rfl, rfl, rfl, Nat.le_refl _, fun _ _ _ => rfl⟩⟩
  case round =>
    obtain ⟨a, b, rfl, rfl, haN, hb2, HI⟩ := hrel
    by_cases hlt : b ≤ N
    · obtain ⟨⟨t, ht⟩, hb, ⟨D1, hR, hB⟩, hG⟩ := HI.out
      have hD1 : D1.length = a := by rw [hB.1, List.length_take, HN.out]; omega
      have HC : Hid (Calls Tryz.prog 199 _ wr _) := ins_any D1 ((L.drop a).take 20) (L.drop b) a b N g cap wr (by
        rw [List.append_assoc, hb, ← drop_two, List.take_append_drop]; exact hR) (List.Pairwise.sublist (List.take_sublist _ _) (strict_drop HS.out a)) hD1 (by rw [List.length_take, List.length_drop, HN.out]; omega) (by rw [List.length_drop, HN.out]; omega) hl
      have HB : Hid _ := And.intro hB (And.intro ht (And.intro hb hG))
      clear hR hB hG HI hD1 ht hb
      go_wp2_with fail
      refine (Calls.mono HC.out ?_)
      rintro e w2 ⟨rfl, ⟨D', hr, hp, hs⟩, hg⟩
      have HI2 : Hid ((∃ t, b = 20 * t) ∧ b + 20 = b + 20 ∧ (∃ D1, RowE w2 g cap (D1 ++ L.drop b) ∧ Gm.Blocks 20 (L.take b) D1) ∧ w.grownBy w2 (some g)) := (by
        obtain ⟨hB, ht, hb, hG⟩ := HB.out
        have hst := stab_one hB ht hb (by rw [HN.out]; exact haN) hs hp
        have ht2 : b = 20 * (t + 1) := by rw [hb, ht, Nat.mul_add]
        exact ⟨⟨t + 1, ht2⟩, rfl, ⟨D1 ++ D', hr, hst⟩, hG.trans hg⟩ : _ ∧ _)
      have hba : a < b := by have := HB.out; omega
      clear hr hp hs hg HB HC
      go_wp2
      go_roundw
      case rel => exact ⟨b, b + 20, rfl, by go_num, hlt, by omega, HI2.out.1, rfl, HI2.out.2.2⟩
      case measure => simp [intOf]; omega
    · have HC : Hid (∃ D1, Gm.Blocks 20 (L.take a) D1 ∧ Calls Tryz.prog 199 #[.slice (some ⟨g, 0, none⟩) N cap, .int .i64 (a : Int), .int .i64 (N : Int), .func (.func 106) #[] #[]] wr (fun e w' => e = .returned (.tuple #[]) ∧ (∃ D', RowE w' g cap (D1 ++ D' ++ []) ∧ D'.Perm (L.drop a) ∧ Gm.S2 D') ∧ wr.grownBy w' (some g))) := (by
        obtain ⟨⟨t, ht⟩, hb, ⟨D1, hR, hB⟩, hG⟩ := HI.out
        have hD1 : D1.length = a := by rw [hB.1, List.length_take, HN.out]; omega
        exact ⟨D1, hB, ins_any D1 (L.drop a) [] a N N g cap wr (by rw [List.append_nil]; exact hR) (strict_drop HS.out a) hD1 (by rw [List.length_drop, HN.out]; omega) (by simp) hl⟩ : ∃ D1, _)
      have hlI : ¬ (b : Int) ≤ (N : Int) := by omega
      obtain ⟨D1, hB1, hC⟩ := HC.out
      have HB1 : Hid _ := hB1
      have HC1 : Hid (Calls Tryz.prog 199 _ wr _) := hC
      clear HC hB1 hC
      go_wp2_with fail
      refine (Calls.mono HC1.out ?_)
      rintro e w2 ⟨rfl, ⟨D', hr, hp, hs⟩, hg⟩
      have HK0 : Hid ((∃ D, RowE w2 g cap D ∧ Gm.Blocks 20 L D) ∧ w.grownBy w2 (some g)) := (by
        obtain ⟨⟨t, ht⟩, hb, _, hG⟩ := HI.out
        refine ⟨⟨D1 ++ D', by simpa using hr, ?_⟩, hG.trans hg⟩
        have h2 := Gm.blocks_app HB1.out t (by rw [List.length_take, HN.out]; omega) hs hp (by rw [List.length_drop, HN.out]; omega)
        rw [List.take_append_drop] at h2
        exact h2 : _ ∧ _)
      clear hr hp hs hg HB1 HC1 HI
      go_wp2
      go_loopw [6] (fun sk wr => ∃ k : Nat, sk = .int .i64 (k : Int) ∧ 20 ≤ k ∧ k ≤ 2000000 ∧ Hid ((∃ D, RowE wr g cap D ∧ Gm.Blocks k L D) ∧ w.grownBy wr (some g))) (fun sk _ => 2000000 - (intOf sk).toNat)
      case atStart => exact ⟨20, rfl, Nat.le_refl _, by decide, HK0.out⟩
      case round =>
        obtain ⟨k, rfl, hk1, hk2, HK⟩ := hrel
        by_cases hkN : k < N
        · obtain ⟨⟨D, hR, hB⟩, hG⟩ := HK.out
          obtain ⟨k2, hk22⟩ : ∃ k2, k2 = 2 * k := ⟨_, rfl⟩
          have hk2I : 2 * (k : Int) = (k2 : Int) := by omega
          have HA0 : Hid ((∃ j, 0 = 2 * k * j) ∧ k2 = 0 + 2 * k ∧ (∃ D1 D2, RowE wr g cap (D1 ++ D2) ∧ Gm.Blocks (2 * k) (L.take 0) D1 ∧ Gm.Blocks k (L.drop 0) D2) ∧ w.grownBy wr (some g)) := (⟨⟨0, rfl⟩, by omega, ⟨[], D, hR, Gm.blocks_nil _, hB⟩, hG⟩ : _ ∧ _)
          have hk2b : k2 ≤ 2000000 := by omega
          clear hR hB hG HK
          have hk2e : 40 ≤ k2 := by omega
          have HKK : Hid _ := hk22
          clear hk22
          go_wp2
          go_loopw [7, 8] (fun sa sb wr => ∃ a b : Nat, sa = .int .i64 (a : Int) ∧ sb = .int .i64 (b : Int) ∧ a ≤ N ∧ b ≤ 4000000 ∧ Hid ((∃ j, a = 2 * k * j) ∧ b = a + 2 * k ∧ (∃ D1 D2, RowE wr g cap (D1 ++ D2) ∧ Gm.Blocks (2 * k) (L.take a) D1 ∧ Gm.Blocks k (L.drop a) D2) ∧ w.grownBy wr (some g))) (fun sa _ _ => N - (intOf sa).toNat)
          case atStart => exact ⟨0, k2, rfl, rfl, Nat.zero_le _, by omega, HA0.out⟩
          case round =>
            obtain ⟨a, b, rfl, rfl, haN, hb4, HI⟩ := hrel
            obtain ⟨m, hm⟩ : ∃ m, m = a + k := ⟨_, rfl⟩
            have hmI : (a : Int) + (k : Int) = (m : Int) := by omega
            have HMM : Hid _ := hm
            clear hm
            by_cases hbN : b ≤ N
            · have HC : Hid (∃ D1 D2, Gm.Blocks (2 * k) (L.take a) D1 ∧ Gm.Blocks k (L.drop a) D2 ∧ SymC D1 (D2.take k) ((D2.drop k).take k) (D2.drop (2 * k)) a m b N g cap wr) := (by
                obtain ⟨ht, hb, ⟨D1, D2, hR, hB, hB2⟩, hG⟩ := HI.out
                have h2 := Gm.blocks_two hB2 (strict_drop HS.out a)
                have hmm := HMM.out
                have l1 : D1.length = a := by rw [hB.1, List.length_take, HN.out]; omega
                have l2 : D2.length = N - a := by rw [hB2.1, List.length_drop, HN.out]
                refine ⟨D1, D2, hB, hB2, symm_all _ _ _ _ _ _ _ _ _ _ _ _ (Nat.le_refl _) hl ⟨?_, l1, ?_, ?_, ?_, h2.1, h2.2.1, h2.2.2.2.2, ?_, ?_⟩⟩
                · have e1 := List.take_append_drop k D2
                  have e2 := List.take_append_drop k (D2.drop k)
                  rw [drop_two] at e2
                  rw [show 2 * k = k + k by omega, List.append_assoc, List.append_assoc, e2, e1]
                  exact hR
                · rw [List.length_take, l2]; omega
                · rw [List.length_take, List.length_drop, l2]; omega
                · rw [List.length_drop, l2]; omega
                · intro e; have := congrArg List.length e; rw [List.length_take, l2, List.length_nil] at this; omega
                · intro e; have := congrArg List.length e; rw [List.length_take, List.length_drop, l2, List.length_nil] at this; omega : ∃ D1 D2, _)
              obtain ⟨D1, D2, hB, hB2, hC⟩ := HC.out
              have HB : Hid _ := And.intro hB hB2
              have HC1 : Hid (Calls Tryz.prog 207 _ wr _) := hC
              clear HC hB hB2 hC
              go_wp2_with fail
              refine (Calls.mono HC1.out ?_)
              rintro e w2 ⟨rfl, ⟨M, hr, hp, hs⟩, hg⟩
              have HI2 : Hid ((∃ j, b = 2 * k * j) ∧ (∃ D1 D2, RowE w2 g cap (D1 ++ D2) ∧ Gm.Blocks (2 * k) (L.take b) D1 ∧ Gm.Blocks k (L.drop b) D2) ∧ w.grownBy w2 (some g) ∧ b = a + 2 * k) := (by
                obtain ⟨⟨j, hj⟩, hb, _, hG⟩ := HI.out
                have hst := stab_two HB.out.1 HB.out.2 ⟨j, hj⟩ hb (by rw [HN.out]; exact haN) hs hp HS.out
                exact ⟨⟨j + 1, by rw [hb, hj, Nat.mul_add, Nat.mul_one]⟩, ⟨D1 ++ M, D2.drop (2 * k), hr, hst.1, hst.2⟩, hG.trans hg, hb⟩ : _ ∧ _)
              have hba : a < b := by have := HI2.out.2.2.2; omega
              have hbk : b + 2 * k ≤ 4000000 := by omega
              have hk2n : k2 = 2 * k := HKK.out
              obtain ⟨b2, hb2e⟩ : ∃ b2, b2 = b + k2 := ⟨_, rfl⟩
              have hbI : (b : Int) + (k2 : Int) = (b2 : Int) := by omega
              have hb24 : b2 ≤ 4000000 := by omega
              have HK2 : Hid (b2 = b + 2 * k) := (by rw [hb2e, hk2n] : _ = _)
              clear hr hp hs hg HB HC1 HI hk2n hb2e
              go_wp2
              go_roundw
              case rel => exact ⟨b, b2, rfl, rfl, hbN, hb24, HI2.out.1, HK2.out, HI2.out.2.1, HI2.out.2.2.1⟩
              case measure => simp [intOf]; omega
            · have hbI : ¬ (b : Int) ≤ (N : Int) := by omega
              by_cases hmN : m < N
              · have HC : Hid (∃ D1 D2, Gm.Blocks (2 * k) (L.take a) D1 ∧ Gm.Blocks k (L.drop a) D2 ∧ (D2.drop k).take k = D2.drop k ∧ SymC D1 (D2.take k) (D2.drop k) [] a m N N g cap wr) := (by
                  obtain ⟨ht, hb, ⟨D1, D2, hR, hB, hB2⟩, hG⟩ := HI.out
                  have h2 := Gm.blocks_two hB2 (strict_drop HS.out a)
                  have hmm := HMM.out
                  have l1 : D1.length = a := by rw [hB.1, List.length_take, HN.out]; omega
                  have l2 : D2.length = N - a := by rw [hB2.1, List.length_drop, HN.out]
                  have e0 : (D2.drop k).take k = D2.drop k := List.take_of_length_le (by rw [List.length_drop, l2]; omega)
                  rw [e0] at h2
                  refine ⟨D1, D2, hB, hB2, e0, symm_all _ _ _ _ _ _ _ _ _ _ _ _ (Nat.le_refl _) hl ⟨?_, l1, ?_, ?_, ?_, h2.1, h2.2.1, h2.2.2.2.2, ?_, ?_⟩⟩
                  · rw [List.append_nil, List.append_assoc, List.take_append_drop]; exact hR
                  · rw [List.length_take, l2]; omega
                  · rw [List.length_drop, l2]; omega
                  · simp
                  · intro e; have := congrArg List.length e; rw [List.length_take, l2, List.length_nil] at this; omega
                  · intro e; have := congrArg List.length e; rw [List.length_drop, l2, List.length_nil] at this; omega : ∃ D1 D2, _)
                obtain ⟨D1, D2, hB, hB2, he0, hC⟩ := HC.out
                have HB : Hid _ := And.intro hB (And.intro hB2 he0)
                have HC1 : Hid (Calls Tryz.prog 207 _ wr _) := hC
                clear HC hB hB2 hC he0
                go_wp2_with fail
                refine (Calls.mono HC1.out ?_)
                rintro e w2 ⟨rfl, ⟨M, hr, hp, hs⟩, hg⟩
                have HI2 : Hid ((∃ D, RowE w2 g cap D ∧ Gm.Blocks (2 * k) L D) ∧ w.grownBy w2 (some g)) := (by
                  obtain ⟨ht, hb, _, hG⟩ := HI.out
                  have h2 := Gm.blocks_two HB.out.2.1 (strict_drop HS.out a)
                  rw [HB.out.2.2] at h2
                  have e5 : (L.drop a).take k ++ ((L.drop a).drop k).take k = L.drop a := by
                    rw [List.take_of_length_le (l := (L.drop a).drop k) (by rw [List.length_drop, List.length_drop, HN.out]; omega), List.take_append_drop]
                  have hpp : M.Perm (L.drop a) := hp.trans (by rw [← e5]; exact h2.2.2.1.append h2.2.2.2.1)
                  exact ⟨⟨D1 ++ M, by simpa using hr, stab_last HB.out.1 ht (by rw [HN.out]; exact haN) (by rw [HN.out]; omega) hs hpp⟩, hG.trans hg⟩ : _ ∧ _)
                have hkk : (k : Int) * 2 = ((2 * k : Nat) : Int) := by omega
                clear hr hp hs hg HB HC1 HI
                go_wp2
                go_roundw
                case rel => exact ⟨2 * k, by go_num, by omega, by omega, HI2.out⟩
                case measure => simp [intOf]; omega
              · have hmNI : ¬ (m : Int) < (N : Int) := by omega
                have HI2 : Hid ((∃ D, RowE wr g cap D ∧ Gm.Blocks (2 * k) L D) ∧ w.grownBy wr (some g)) := (by
                  obtain ⟨ht, hb, ⟨D1, D2, hR, hB, hB2⟩, hG⟩ := HI.out
                  have hmm := HMM.out
                  have h1 := Gm.blocks_one hB2 (by rw [List.length_drop, HN.out]; omega)
                  exact ⟨⟨D1 ++ D2, hR, stab_last hB ht (by rw [HN.out]; exact haN) (by rw [HN.out]; omega) h1.1 h1.2⟩, hG⟩ : _ ∧ _)
                have hkk : (k : Int) * 2 = ((2 * k : Nat) : Int) := by omega
                clear HI
                go_wp2
                go_roundw
                case rel => exact ⟨2 * k, by go_num, by omega, by omega, HI2.out⟩
                case measure => simp [intOf]; omega
        · have HE : Hid ((∃ R, RowE wr g cap R ∧ R.Perm L ∧ Gm.S2 R) ∧ w.grownBy wr (some g)) := (by
            obtain ⟨⟨D, hR, hB⟩, hG⟩ := HK.out
            have h1 := Gm.blocks_one hB (by rw [HN.out]; omega)
            exact ⟨⟨D, hR, h1.2, h1.1⟩, hG⟩ : _ ∧ _)
          have hkI : ¬ (k : Int) < (N : Int) := by omega
          clear HK
          go_wp2
          go_end0
          exact ⟨rfl, HE.out⟩
end Go.Proofs.YtphjbbbnbmafnaaGreatDoor.G

namespace Go.Proofs.YtphjbbbnbmafnaaGreatDoor.G
open Go.RowKit

set_option maxHeartbeats 1000000 in
set_option maxRecDepth 100000 in
theorem ins_nil (w : World) (cv : Value) : Calls Tryz.prog 199 #[.slice none 0 0, .int .i64 0, .int .i64 0, cv] w fun e w' => e = .returned (.tuple #[]) ∧ w' = w := by
  go_enter Tryz.func199, Tryz.ntmps199
  go_wp2
  go_loopw [8] (fun si wr => si = .int .i64 1 ∧ wr = w) (fun _ _ => 0)
  case atStart => exact ⟨rfl, rfl⟩
  case round =>
    obtain ⟨rfl, rfl⟩ := hrel
    go_wp2
    go_end0
    exact ⟨rfl, rfl⟩
set_option maxHeartbeats 1000000 in
set_option maxRecDepth 100000 in
theorem stable_nil (w : World) (cv : Value) : Calls Tryz.prog 187 #[.slice none 0 0, .int .i64 0, cv] w fun e w' => e = .returned (.tuple #[]) ∧ w' = w := by
  have HC : Hid (Calls Tryz.prog 199 _ w _) := ins_nil w cv
  go_enter Tryz.func187, Tryz.ntmps187
  go_wp2
  go_loopw [7, 8] (fun sa sb wr => sa = .int .i64 0 ∧ sb = .int .i64 20 ∧ wr = w) (fun _ _ _ => 0)
  case atStart => exact ⟨rfl, rfl, rfl⟩
  case round =>
    obtain ⟨rfl, rfl, hw⟩ := hrel
    rw [hw]
    clear hw wr
    go_wp2_with fail
    refine (Calls.mono HC.out ?_)
    rintro e w2 ⟨rfl, hw⟩
    rw [hw]
    clear hw w2
    go_wp2
    go_loopw [6] (fun sk wr => sk = .int .i64 20 ∧ wr = w) (fun _ _ => 0)
    case atStart => exact ⟨rfl, rfl⟩
    case round =>
      obtain ⟨rfl, hw⟩ := hrel
      rw [hw]
      clear hw wr
      go_wp2
      go_end0
      exact ⟨rfl, rfl⟩
set_option maxHeartbeats 1000000 in
set_option maxRecDepth 100000 in
theorem sorts_own (l : List E3) (base : Nat) (v : Value) (W : World) (hrow : W.ownsRow base 38 3 v l.length (flat l)) (hl : l.length ≤ 1000000) (hL : Gm.Strict l) :
    Calls Tryz.prog 156 #[v, .func (.func 106) #[] #[]] W fun e w' => e = .returned (.tuple #[]) ∧ (∃ R, R.Perm l ∧ Gm.S2 R ∧ w'.ownsRow base 38 3 v R.length (flat R)) ∧ W.grownBy w' v.ownBlock := by
  rcases hrow.2 with ⟨rfl, h0⟩ | ⟨g, cap, cur, rfl, hbase, hgb, r1, r2, r3, r4⟩
  · obtain rfl : l = [] := List.eq_nil_of_length_eq_zero h0
    have HC : Hid (Calls Tryz.prog 187 _ W _) := stable_nil W (.func (.func 106) #[] #[])
    clear hrow
    go_enter Tryz.func156, Tryz.ntmps156
    go_wp2_with fail
    refine (Calls.mono HC.out ?_)
    rintro e w2 ⟨rfl, hw⟩
    rw [hw]
    clear hw w2
    go_wp2
    go_end0
    exact ⟨rfl, ⟨[], List.Perm.refl _, List.Pairwise.nil, World.ownsRow_nil _ _ _ _⟩, ⟨rfl, rfl, rfl, Nat.le_refl _, fun _ _ _ => rfl⟩⟩
  · have HC : Hid (Calls Tryz.prog 187 _ W _) := stable_any l l.length g cap W ⟨cur, hgb, r3, r4⟩ hL rfl hl
    clear hrow hgb r3 r4
    go_enter Tryz.func156, Tryz.ntmps156
    go_wp2_with fail
    refine (Calls.mono HC.out ?_)
    rintro e w2 ⟨rfl, ⟨R, ⟨cur2, k1, k2, k3⟩, hp, hs⟩, hg⟩
    have HE : Hid ((∃ R : List E3, R.Perm l ∧ Gm.S2 R ∧ w2.ownsRow base 38 3 (.slice (some ⟨g, 0, none⟩) l.length cap) R.length (flat R)) ∧ W.grownBy w2 (some g)) := (by
      have e := hp.length_eq
      refine ⟨⟨R, hp, hs, ⟨by rw [flat_len], .inr ⟨g, cap, cur2, by rw [e], hbase, k1, by rw [e]; exact r1, r2, k2, k3⟩⟩⟩, hg⟩ : _ ∧ _)
    clear k1 k2 k3 hp hs hg
    go_wp2
    go_end0
    exact ⟨rfl, HE.out.1, HE.out.2⟩
end Go.Proofs.YtphjbbbnbmafnaaGreatDoor.G
