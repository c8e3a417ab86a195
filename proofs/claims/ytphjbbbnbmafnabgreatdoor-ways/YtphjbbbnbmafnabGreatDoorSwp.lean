/-
  slices' swapRange and rotate over a block of edges: two stretches change places; nothing else is written.
-/
import Derived.Test.YtphjbbbnbmafnabGreatDoorComp
import Derived.BigQuiet
import Derived.BigRegion
namespace Go.Proofs.YtphjbbbnbmafnabGreatDoor.G
open Go.RowKit

/-- two places change what they hold -/
def swp (l : List E3) (i j : Nat) : List E3 := match l[i]?, l[j]? with
  | some p, some q => (l.set i q).set j p
  | _, _ => l
theorem swp_len (l : List E3) (i j : Nat) : (swp l i j).length = l.length := by
  unfold swp; split <;> simp
theorem swp_lists (X Y Z : List E3) (p q : E3) : swp (X ++ p :: Y ++ q :: Z) X.length (X.length + 1 + Y.length) = X ++ q :: Y ++ p :: Z := by
  have h1 : (X ++ p :: Y ++ q :: Z)[X.length]? = some p := by simp
  have h2 : (X ++ p :: Y ++ q :: Z)[X.length + 1 + Y.length]? = some q := by
    rw [List.getElem?_append_right (by simp; omega)]
    rw [show X.length + 1 + Y.length - (X ++ p :: Y).length = 0 by simp; omega]; rfl
  unfold swp
  rw [h1, h2]
  simp only
  have e1 : (X ++ p :: Y ++ q :: Z).set X.length q = X ++ q :: Y ++ q :: Z := by simp
  rw [e1, List.set_append_right _ _ (by simp; omega)]
  rw [show X.length + 1 + Y.length - (X ++ q :: Y).length = 0 by simp; omega]
  simp
theorem RowE.swp {W : World} {g cap : Nat} {L : List E3} (h : RowE W g cap L) {i j : Nat} {p q : E3} (hi : L[i]? = some p) (hj : L[j]? = some q) :
    RowE ((((((W.setCell ⟨g, i * 3, none⟩ (.int .i64 q.1)).setCell ⟨g, i * 3 + 1, none⟩ (.int .i64 q.2.1)).setCell ⟨g, i * 3 + 2, none⟩ (.int .i64 q.2.2)).setCell ⟨g, j * 3, none⟩ (.int .i64 p.1)).setCell ⟨g, j * 3 + 1, none⟩ (.int .i64 p.2.1)).setCell ⟨g, j * 3 + 2, none⟩ (.int .i64 p.2.2)) g cap (swp L i j) := by
  have h1 := h.put q (len_of hi)
  have h2 := h1.put (k := j) p (by rw [List.length_set]; exact len_of hj)
  have e : G.swp L i j = (L.set i q).set j p := by unfold G.swp; rw [hi, hj]
  rw [e]
  exact h2
theorem gb_dn1 {w w' : World} {r : Option Nat} (h : w.grownBy w' r) : w.grownBy w'.drew r := ⟨h.os, h.tape, h.output, h.size, h.block⟩
theorem gb_six (W : World) (g a b c d e f : Nat) (u v x y z t : Value) : W.grownBy ((((((W.setCell ⟨g, a, none⟩ u).setCell ⟨g, b, none⟩ v).setCell ⟨g, c, none⟩ x).setCell ⟨g, d, none⟩ y).setCell ⟨g, e, none⟩ z).setCell ⟨g, f, none⟩ t) (some g) :=
  ((((((gb_set W g a u).trans (gb_set _ g b v)).trans (gb_set _ g c x)).trans (gb_set _ g d y)).trans (gb_set _ g e z)).trans (gb_set _ g f t))
set_option maxHeartbeats 8000000 in
set_option maxRecDepth 100000 in
theorem swap_any (X P Y Q Z : List E3) (a b n N g cap : Nat) (cv : Value) (w : World) (h : RowE w g cap (X ++ P ++ Y ++ Q ++ Z)) (ha : X.length = a) (hn : P.length = n) (hq : Q.length = n) (hb : a + n + Y.length = b) (hN : b + n + Z.length = N) (hl : N ≤ 1000000) :
    Calls Tryz.prog 155 #[.slice (some ⟨g, 0, none⟩) N cap, .int .i64 (a : Int), .int .i64 (b : Int), .int .i64 (n : Int), cv] w fun e w' => e = .returned (.tuple #[]) ∧ RowE w' g cap (X ++ Q ++ Y ++ P ++ Z) ∧ w.grownBy w' (some g) := by
  have HR0 : Hid (RowE w g cap (X ++ (Q.take 0 ++ P.drop 0) ++ Y ++ (P.take 0 ++ Q.drop 0) ++ Z)) := (by simpa using h : RowE w g cap (X ++ (Q.take 0 ++ P.drop 0) ++ Y ++ (P.take 0 ++ Q.drop 0) ++ Z))
  clear h
  have hab : a + n ≤ b := by omega
  have hbN : b + n ≤ N := by omega
  have HL : Hid _ := And.intro ha (And.intro hn (And.intro hq (And.intro hb hN)))
  clear ha hn hq hb hN
  go_enter Tryz.func155, Tryz.ntmps155
  go_wp2
  go_loopw [10] (fun si wr => ∃ i : Nat, i ≤ n ∧ si = .int .i64 (i : Int) ∧ Hid (RowE wr g cap (X ++ (Q.take i ++ P.drop i) ++ Y ++ (P.take i ++ Q.drop i) ++ Z) ∧ w.grownBy wr (some g))) (fun si _ => n - (intOf si).toNat)
  case atStart => exact ⟨0, Nat.zero_le _, rfl, HR0.out, ⟨rfl, rfl, rfl, Nat.le_refl _, fun _ _ _ => rfl⟩⟩
  case round =>
    obtain ⟨i, hi, rfl, HI⟩ := hrel
    by_cases hlt : i < n
    · obtain ⟨p, hp⟩ : ∃ p, P[i]? = some p := ⟨_, List.getElem?_eq_getElem (by have := HL.out; omega)⟩
      obtain ⟨q, hq⟩ : ∃ q, Q[i]? = some q := ⟨_, List.getElem?_eq_getElem (by have := HL.out; omega)⟩
      have HS : Hid (∃ A B C, X ++ (Q.take i ++ P.drop i) ++ Y ++ (P.take i ++ Q.drop i) ++ Z = A ++ p :: B ++ q :: C ∧ A.length = a + i ∧ A.length + 1 + B.length = b + i ∧ X ++ (Q.take (i + 1) ++ P.drop (i + 1)) ++ Y ++ (P.take (i + 1) ++ Q.drop (i + 1)) ++ Z = A ++ q :: B ++ p :: C) := (by
        obtain ⟨h1, h2, h3, h4, h5⟩ := HL.out
        have e1 : P.drop i = p :: P.drop (i + 1) := by rw [List.drop_eq_getElem_cons (by omega)]; congr 1; rw [List.getElem?_eq_getElem (by omega)] at hp; exact Option.some.inj hp
        have e2 : Q.drop i = q :: Q.drop (i + 1) := by rw [List.drop_eq_getElem_cons (by omega)]; congr 1; rw [List.getElem?_eq_getElem (by omega)] at hq; exact Option.some.inj hq
        have e3 : P.take (i + 1) = P.take i ++ [p] := by rw [List.take_add_one, hp]; rfl
        have e4 : Q.take (i + 1) = Q.take i ++ [q] := by rw [List.take_add_one, hq]; rfl
        refine ⟨X ++ Q.take i, P.drop (i + 1) ++ Y ++ P.take i, Q.drop (i + 1) ++ Z, ?_, ?_, ?_, ?_⟩
        · rw [e1, e2]; simp
        · rw [List.length_append, List.length_take]; omega
        · simp only [List.length_append, List.length_take, List.length_drop]; omega
        · rw [e3, e4]; simp : ∃ A B C, _)
      clear hp hq
      obtain ⟨A, B, C, hS1, hS2, hS3, hS4⟩ := HS.out
      have hR := HI.out.1
      rw [hS1] at hR
      have hG := HI.out.2
      have hsw : G.swp (A ++ p :: B ++ q :: C) (a + i) (b + i) = X ++ (Q.take (i + 1) ++ P.drop (i + 1)) ++ Y ++ (P.take (i + 1) ++ Q.drop (i + 1)) ++ Z := by rw [hS4, ← hS3, ← hS2]; exact swp_lists A B C p q
      have hpa : (A ++ p :: B ++ q :: C)[a + i]? = some p := by rw [← hS2]; simp
      have hqb : (A ++ p :: B ++ q :: C)[b + i]? = some q := by
        rw [← hS3, List.getElem?_append_right (by simp; omega), show A.length + 1 + B.length - (A ++ p :: B).length = 0 by simp; omega]; rfl
      have hR2 := hR.swp hpa hqb
      rw [hsw] at hR2
      obtain ⟨c0, c1, c2⟩ := hR.cells hpa
      obtain ⟨d0, d1, d2⟩ := hR.cells hqb
      have f0 := hR.frozen ((a + i) * 3)
      have f1 := hR.frozen ((a + i) * 3 + 1)
      have f2 := hR.frozen ((a + i) * 3 + 2)
      have g0 := hR.frozen ((b + i) * 3)
      have g1 := hR.frozen ((b + i) * 3 + 1)
      have g2 := hR.frozen ((b + i) * 3 + 2)
      have HI2 : Hid (RowE _ g cap (X ++ (Q.take (i + 1) ++ P.drop (i + 1)) ++ Y ++ (P.take (i + 1) ++ Q.drop (i + 1)) ++ Z)) := hR2
      have HG : Hid _ := hG
      obtain ⟨p1, p2, p3⟩ := p
      obtain ⟨q1, q2, q3⟩ := q
      clear HS hS1 hS2 hS3 hS4 hR hG hsw hpa hqb hR2 HI
      dsimp only at c0 c1 c2 d0 d1 d2
      have hne : b + i ≠ a + i := by omega
      go_wp2_with fail
      go_region
      have HG2 : Hid (w.grownBy _ (some g)) := HG.out.trans (gb_six wr g ((a + i) * 3) ((a + i) * 3 + 1) ((a + i) * 3 + 2) ((b + i) * 3) ((b + i) * 3 + 1) ((b + i) * 3 + 2) (.int .i64 q1) (.int .i64 q2) (.int .i64 q3) (.int .i64 p1) (.int .i64 p2) (.int .i64 p3))
      clear c0 c1 c2 d0 d1 d2 f0 f1 f2 g0 g1 g2
      revert HG2 HI2
      generalize (((((wr.setCell _ _).setCell _ _).setCell _ _).setCell _ _).setCell _ _).setCell _ _ = W2
      intro HI2 HG2
      go_wp2
      go_roundw
      case rel => exact ⟨i + 1, by omega, by go_num, HI2.out, gb_dn1 HG2.out⟩
      case measure => simp [intOf]; omega
    · obtain rfl : i = n := by omega
      have HE : Hid (RowE wr g cap (X ++ Q ++ Y ++ P ++ Z) ∧ w.grownBy wr (some g)) := (by
        have h := HI.out
        obtain ⟨h1, h2, h3, h4, h5⟩ := HL.out
        rw [List.take_of_length_le (by omega : Q.length ≤ i), List.drop_eq_nil_of_le (by omega : P.length ≤ i), List.take_of_length_le (by omega : P.length ≤ i), List.drop_eq_nil_of_le (by omega : Q.length ≤ i), List.append_nil, List.append_nil] at h
        exact h : _ ∧ _)
      go_wp2
      go_end0
      exact ⟨rfl, HE.out⟩
set_option maxHeartbeats 8000000 in
set_option maxRecDepth 100000 in
theorem rot_any (X U V Z : List E3) (a m b N g cap : Nat) (cv : Value) (w : World) (h : RowE w g cap (X ++ U ++ V ++ Z)) (ha : X.length = a) (hu : a + U.length = m) (hv : m + V.length = b) (hN : b + Z.length = N) (hu0 : U ≠ []) (hv0 : V ≠ []) (hl : N ≤ 1000000) :
    Calls Tryz.prog 147 #[.slice (some ⟨g, 0, none⟩) N cap, .int .i64 (a : Int), .int .i64 (m : Int), .int .i64 (b : Int), cv] w fun e w' => e = .returned (.tuple #[]) ∧ RowE w' g cap (X ++ V ++ U ++ Z) ∧ w.grownBy w' (some g) := by
  have hu1 := List.length_pos_iff.2 hu0
  have hv1 := List.length_pos_iff.2 hv0
  obtain ⟨T, hT⟩ : ∃ T, T = X ++ V ++ U ++ Z := ⟨_, rfl⟩
  rw [← hT]
  have H0 : Hid (∃ X' U' V' Z' : List E3, RowE w g cap (X' ++ U' ++ V' ++ Z') ∧ X'.length + (m - a) = m ∧ U'.length = m - a ∧ V'.length = b - m ∧ m + (b - m) + Z'.length = N ∧ X' ++ V' ++ U' ++ Z' = T) := (⟨X, U, V, Z, h, by omega, by omega, by omega, by omega, hT.symm⟩ : ∃ X' U' V' Z' : List E3, _)
  have hmb : m < b := by omega
  have ham : a < m := by omega
  have hbN : b ≤ N := by omega
  clear h ha hu hv hN hu0 hv0 hu1 hv1 hT
  clear X U V Z
  have e1 : (m : Int) - (a : Int) = ((m - a : Nat) : Int) := by omega
  have e2 : (b : Int) - (m : Int) = ((b - m : Nat) : Int) := by omega
  go_enter Tryz.func147, Tryz.ntmps147
  go_wp2
  go_loopw [10, 11] (fun si sj wr => ∃ i j : Nat, si = .int .i64 (i : Int) ∧ sj = .int .i64 (j : Int) ∧ 0 < i ∧ 0 < j ∧ i ≤ m ∧ m + j ≤ N ∧ Hid ((∃ X U V Z : List E3, RowE wr g cap (X ++ U ++ V ++ Z) ∧ X.length + i = m ∧ U.length = i ∧ V.length = j ∧ m + j + Z.length = N ∧ X ++ V ++ U ++ Z = T) ∧ w.grownBy wr (some g))) (fun si sj _ => (intOf si).toNat + (intOf sj).toNat)
  case atStart => exact ⟨m - a, b - m, rfl, rfl, by omega, by omega, by omega, by omega, H0.out, ⟨rfl, rfl, rfl, Nat.le_refl _, fun _ _ _ => rfl⟩⟩
  case round =>
    obtain ⟨i, j, rfl, rfl, hi0, hj0, him, hjN, HI⟩ := hrel
    clear e1 e2
    have e1 : (m : Int) - (i : Int) = ((m - i : Nat) : Int) := by omega
    by_cases hij : i = j
    · have hijb : ((i : Int) != (j : Int)) = false := by rw [hij]; simp
      obtain ⟨X, U, V, Z, hR, h1, h2, h3, h4, h5⟩ := HI.out.1
      have HC : Hid (Calls Tryz.prog 155 _ wr _) := swap_any X U [] V Z (m - i) m i N g cap cv wr (by simpa using hR) (by omega) h2 (by omega) (by simp; omega) (by omega) hl
      have HT : Hid (X ++ V ++ [] ++ U ++ Z = T) := (by rw [List.append_nil]; exact h5 : _ = _)
      have HG : Hid _ := HI.out.2
      clear hR h1 h2 h3 h4 h5 HI hij
      go_wp2_with fail
      refine (Calls.mono HC.out ?_)
      rintro e w2 ⟨rfl, hr2, hg2⟩
      rw [HT.out] at hr2
      have HE : Hid _ := And.intro hr2 (HG.out.trans hg2)
      clear hr2 hg2
      go_wp2
      go_end0
      exact ⟨rfl, HE.out⟩
    · have hijb : ((i : Int) != (j : Int)) = true := by simpa using (by omega : ¬ (i : Int) = (j : Int))
      by_cases hgt : i > j
      · obtain ⟨X, U, V, Z, hR, h1, h2, h3, h4, h5⟩ := HI.out.1
        have hsp := List.take_append_drop j U
        have HC : Hid (Calls Tryz.prog 155 _ wr _) := swap_any X (U.take j) (U.drop j) V Z (m - i) m j N g cap cv wr (by
          have h := hR
          rw [← hsp] at h
          simpa using h) (by omega) (by rw [List.length_take]; omega) h3 (by rw [List.length_drop]; omega) (by omega) hl
        have HN : Hid (∀ W : World, RowE W g cap (X ++ V ++ U.drop j ++ U.take j ++ Z) → ∃ X' U' V' Z' : List E3, RowE W g cap (X' ++ U' ++ V' ++ Z') ∧ X'.length + (i - j) = m ∧ U'.length = i - j ∧ V'.length = j ∧ m + j + Z'.length = N ∧ X' ++ V' ++ U' ++ Z' = T) := (fun W h => ⟨X ++ V, U.drop j, U.take j, Z, h, by rw [List.length_append]; omega, by rw [List.length_drop]; omega, by rw [List.length_take]; omega, h4, by rw [← h5]; simp [hsp]⟩ : ∀ W : World, _)
        have HG : Hid _ := HI.out.2
        clear hR h1 h2 h3 h4 h5 HI hsp
        go_wp2_with fail
        refine (Calls.mono HC.out ?_)
        rintro e w2 ⟨rfl, hr2, hg2⟩
        have HE : Hid _ := And.intro (HN.out _ hr2) (HG.out.trans hg2)
        clear hr2 hg2
        go_wp2
        go_roundw
        case rel => exact ⟨i - j, j, by go_num, rfl, by omega, hj0, by omega, hjN, HE.out⟩
        case measure => simp [intOf]; omega
      · obtain ⟨X, U, V, Z, hR, h1, h2, h3, h4, h5⟩ := HI.out.1
        have hsp := List.take_append_drop (j - i) V
        have e3 : (m : Int) + (j : Int) - (i : Int) = ((m + j - i : Nat) : Int) := by omega
        have HC : Hid (Calls Tryz.prog 155 _ wr _) := swap_any X U (V.take (j - i)) (V.drop (j - i)) Z (m - i) (m + j - i) i N g cap cv wr (by
          have h := hR
          rw [← hsp] at h
          simpa using h) (by omega) h2 (by rw [List.length_drop]; omega) (by rw [List.length_take]; omega) (by omega) hl
        have HN : Hid (∀ W : World, RowE W g cap (X ++ V.drop (j - i) ++ V.take (j - i) ++ U ++ Z) → ∃ X' U' V' Z' : List E3, RowE W g cap (X' ++ U' ++ V' ++ Z') ∧ X'.length + i = m ∧ U'.length = i ∧ V'.length = j - i ∧ m + (j - i) + Z'.length = N ∧ X' ++ V' ++ U' ++ Z' = T) := (fun W h => ⟨X, V.drop (j - i), V.take (j - i), U ++ Z, by simpa using h, h1, by rw [List.length_drop]; omega, by rw [List.length_take]; omega, by rw [List.length_append]; omega, by rw [← h5]; conv => { rhs; rw [← hsp] }; simp⟩ : ∀ W : World, _)
        have HG : Hid _ := HI.out.2
        clear hR h1 h2 h3 h4 h5 HI hsp
        go_wp2_with fail
        refine (Calls.mono HC.out ?_)
        rintro e w2 ⟨rfl, hr2, hg2⟩
        have HE : Hid _ := And.intro (HN.out _ hr2) (HG.out.trans hg2)
        clear hr2 hg2
        go_wp2
        go_roundw
        case rel => exact ⟨i, j - i, rfl, by go_num, hi0, by omega, him, by omega, HE.out⟩
        case measure => simp [intOf]; omega
end Go.Proofs.YtphjbbbnbmafnabGreatDoor.G
