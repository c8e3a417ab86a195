/-
  slices' insertionSort over a block of edges, by compareLabels: a stretch that was in order is then ordered by labels, what is the same staying as it was; nothing else is written.
-/
import Derived.Test.YtphjbbbnbmafnabGreatDoorSwp
import Derived.Test.YtphjbbbnbmafnabGreatDoorGMath
import Derived.Test.YtphjbbbnbmafnabGreatDoorComp
namespace Go.Proofs.YtphjbbbnbmafnabGreatDoor.G
open Go.RowKit

theorem gb_dnN (w w' : World) (row : Option Nat) (h : w.grownBy w' row) (n : Nat) : w.grownBy (w'.drewN n) row := ⟨h.os, h.tape, h.output, h.size, h.block⟩
theorem RowE.kept {W W' : World} {g cap : Nat} {L : List E3} {row : Option Nat} (h : RowE W g cap L) (hg : W.grownBy W' row) (hne : some g ≠ row) : RowE W' g cap L := by
  obtain ⟨cur, h1, h2⟩ := h
  exact ⟨cur, by rw [hg.block g ((Array.getElem?_eq_some_iff.1 h1).1) hne]; exact h1, h2⟩
theorem RowE.lt {W : World} {g cap : Nat} {L : List E3} (h : RowE W g cap L) : g < W.heap.size := by
  obtain ⟨cur, h1, h2⟩ := h
  exact (Array.getElem?_eq_some_iff.1 h1).1
theorem swp_back (P Q : List E3) (y x : E3) : swp (P ++ y :: x :: Q) (P.length + 1) P.length = P ++ x :: y :: Q := by
  have h1 : (P ++ y :: x :: Q)[P.length]? = some y := by simp
  have h2 : (P ++ y :: x :: Q)[P.length + 1]? = some x := by
    rw [List.getElem?_append_right (by omega), show P.length + 1 - P.length = 1 by omega]; rfl
  unfold swp
  rw [h1, h2]
  simp only
  rw [List.set_append_right _ _ (by omega), List.set_append_right _ _ (by omega)]
  simp
theorem cmpI_lt (a b : Int) : (Lib.compareInt a b < 0) ↔ a < b := by
  rcases cmpI a b with ⟨e, h⟩ | ⟨e, h⟩ | ⟨e, h⟩ <;> rw [e] <;> omega
theorem last_of (A : List E3) (h : A ≠ []) : ∃ B y, A = B ++ [y] := ⟨A.dropLast, A.getLast h, (List.dropLast_concat_getLast h).symm⟩
theorem ins_step {A A1 A2 D : List E3} {x : E3} {k : Nat} (hA : A.Perm (D.take k)) (hS : Gm.S2 A) (hx : D[k]? = some x) (hA2 : A1 ++ A2 = A) (hz : ∀ z ∈ A2, Gm.lt2 x z = true) (h1 : ∀ z ∈ A1, Gm.lt2 z x = true) : (A1 ++ x :: A2).Perm (D.take (k + 1)) ∧ Gm.S2 (A1 ++ x :: A2) := by
  subst hA2
  refine ⟨?_, Gm.s2_between A1 A2 x hS hz h1⟩
  rw [List.take_add_one, hx]
  refine List.perm_middle.trans ?_
  refine List.Perm.trans ?_ List.perm_append_comm
  exact hA.cons x
set_option maxHeartbeats 8000000 in
set_option maxRecDepth 100000 in
theorem ins_any (X D Y : List E3) (a b N g cap : Nat) (w : World) (h : RowE w g cap (X ++ D ++ Y)) (hD : Gm.Strict D) (ha : X.length = a) (hb : a + D.length = b) (hN : b + Y.length = N) (hl : N ≤ 1000000) :
    Calls Tryz.prog 120 #[.slice (some ⟨g, 0, none⟩) N cap, .int .i64 (a : Int), .int .i64 (b : Int), .func (.func 49) #[] #[]] w fun e w' => e = .returned (.tuple #[]) ∧ (∃ D', RowE w' g cap (X ++ D' ++ Y) ∧ D'.Perm D ∧ Gm.S2 D') ∧ w.grownBy w' (some g) := by
  by_cases h1 : D.length ≤ 1
  · have HE : Hid _ := h
    have HD : Hid (Gm.S2 D) := (by
      match D, h1 with
      | [], _ => exact List.Pairwise.nil
      | [x], _ => exact List.pairwise_singleton _ _ : Gm.S2 D)
    have hI : ¬ (a : Int) + 1 < (b : Int) := by omega
    clear h
    go_enter Tryz.func120, Tryz.ntmps120
    go_wp2
    go_loopw [8] (fun si wr => si = .int .i64 ((a : Int) + 1) ∧ wr = w) (fun _ _ => 0)
    case atStart => exact ⟨rfl, rfl⟩
    case round =>
      obtain ⟨rfl, rfl⟩ := hrel
      go_wp2
      go_end0
      exact ⟨rfl, ⟨D, HE.out, List.Perm.refl _, HD.out⟩, ⟨rfl, rfl, rfl, Nat.le_refl _, fun _ _ _ => rfl⟩⟩
  · have H0 : Hid (∃ A R, RowE w g cap (X ++ A ++ R ++ Y) ∧ A.Perm (D.take 1) ∧ R = D.drop 1 ∧ Gm.S2 A) := (⟨D.take 1, D.drop 1, by rw [List.append_assoc X, List.take_append_drop]; exact h, List.Perm.refl _, rfl, by
      match D, h1 with
      | x :: _, _ => exact List.pairwise_singleton _ _⟩ : ∃ A R, _)
    have HD : Hid _ := hD
    have HL : Hid _ := And.intro ha (And.intro hb hN)
    have hab : a + 1 < b := by omega
    have hbN : b ≤ N := by omega
    clear h hD ha hb hN h1
    go_enter Tryz.func120, Tryz.ntmps120
    go_wp2
    go_loopw [8] (fun si wr => ∃ i : Nat, a + 1 ≤ i ∧ i ≤ b ∧ si = .int .i64 (i : Int) ∧ Hid ((∃ A R, RowE wr g cap (X ++ A ++ R ++ Y) ∧ A.Perm (D.take (i - a)) ∧ R = D.drop (i - a) ∧ Gm.S2 A) ∧ w.grownBy wr (some g))) (fun si _ => b - (intOf si).toNat)
    case atStart => exact ⟨a + 1, Nat.le_refl _, by omega, by go_num, by rw [show a + 1 - a = 1 by omega]; exact H0.out, ⟨rfl, rfl, rfl, Nat.le_refl _, fun _ _ _ => rfl⟩⟩
    case round =>
      obtain ⟨i, hi1, hi2, rfl, HI⟩ := hrel
      by_cases hlt : i < b
      · obtain ⟨A, R, hR, hA, rfl, hS⟩ := HI.out.1
        obtain ⟨x, hx⟩ : ∃ x, D[i - a]? = some x := ⟨_, List.getElem?_eq_getElem (by have := HL.out; omega)⟩
        have hAl : A.length = i - a := by rw [hA.length_eq, List.length_take]; have := HL.out; omega
        have e1 : D.drop (i - a) = x :: D.drop (i - a + 1) := by rw [List.drop_eq_getElem_cons (by have := HL.out; omega)]; congr 1; rw [List.getElem?_eq_getElem (by have := HL.out; omega)] at hx; exact Option.some.inj hx
        have hbef : ∀ y ∈ A, Gm.ltE y x = true := fun y hy => by
          have h3 : (D.take (i - a) ++ x :: D.drop (i - a + 1)).Pairwise (fun a b => Gm.ltE a b = true) := by rw [← e1, List.take_append_drop]; exact HD.out
          exact (List.pairwise_append.1 h3).2.2 y (hA.mem_iff.1 hy) x (List.mem_cons_self)
        rw [e1] at hR
        have HJ0 : Hid (∃ A1 A2, RowE wr g cap (X ++ A1 ++ x :: A2 ++ D.drop (i - a + 1) ++ Y) ∧ a + A1.length = i ∧ A1 ++ A2 = A ∧ ∀ z ∈ A2, Gm.lt2 x z = true) := (⟨A, [], by simpa using hR, by omega, by simp, by simp⟩ : ∃ A1 A2, _)
        have HA : Hid _ := And.intro hA (And.intro hS (And.intro hbef (And.intro hx hAl)))
        have HG : Hid _ := HI.out.2
        clear HI hR hA hS hbef hx e1 hAl
        obtain ⟨W0, hW0⟩ : ∃ W0, W0 = wr := ⟨wr, rfl⟩
        rw [← hW0] at HJ0 HG
        have HW0 : Hid _ := hW0
        clear hW0
        go_wp2
        go_loopw [9] (fun sj wr => ∃ j : Nat, a ≤ j ∧ j ≤ i ∧ sj = .int .i64 (j : Int) ∧ Hid ((∃ A1 A2, RowE wr g cap (X ++ A1 ++ x :: A2 ++ D.drop (i - a + 1) ++ Y) ∧ a + A1.length = j ∧ A1 ++ A2 = A ∧ ∀ z ∈ A2, Gm.lt2 x z = true) ∧ w.grownBy wr (some g))) (fun sj _ => (intOf sj).toNat)
        case atStart => exact ⟨i, by omega, Nat.le_refl _, rfl, by rw [← HW0.out]; exact HJ0.out, by rw [← HW0.out]; exact HG.out⟩
        case round =>
          obtain ⟨j, hj1, hj2, rfl, HI⟩ := hrel
          by_cases hja : j > a
          · obtain ⟨A1, A2, hR, hA1, hA2, hz⟩ := HI.out.1
            obtain ⟨B, y, rfl⟩ := last_of A1 (by intro e; subst e; simp at hA1; omega)
            obtain ⟨k, hjk⟩ : ∃ k, j = k + 1 := ⟨j - 1, by omega⟩
            have hk : a + B.length = k := by simp at hA1; omega
            have hPk : (X ++ B).length = k := by rw [List.length_append]; have := HL.out; omega
            have hre : X ++ (B ++ [y]) ++ x :: A2 ++ D.drop (i - a + 1) ++ Y = (X ++ B) ++ y :: x :: (A2 ++ D.drop (i - a + 1) ++ Y) := by simp
            rw [hre] at hR
            have hy : ((X ++ B) ++ y :: x :: (A2 ++ D.drop (i - a + 1) ++ Y))[k]? = some y := by rw [← hPk]; simp
            have hx : ((X ++ B) ++ y :: x :: (A2 ++ D.drop (i - a + 1) ++ Y))[j]? = some x := by
              rw [hjk, ← hPk, List.getElem?_append_right (by omega), show (X ++ B).length + 1 - (X ++ B).length = 1 by omega]; rfl
            have hord := Gm.lt2_late x y (HA.out.2.2.1 y (by rw [← hA2]; simp))
            obtain ⟨c0, c1, c2⟩ := hR.cells hy
            obtain ⟨d0, d1, d2⟩ := hR.cells hx
            have HRr : Hid (RowE wr g cap ((X ++ B) ++ y :: x :: (A2 ++ D.drop (i - a + 1) ++ Y))) := hR
            have HX : Hid _ := And.intro hy (And.intro hx (And.intro hord (And.intro hPk (And.intro hk (And.intro hA2 (And.intro hz hre))))))
            have HG1 : Hid _ := HI.out.2
            have hgl := hR.lt
            have hjN : j < N := by omega
            have hkN : k < N := by omega
            have e8 : IntKind.i64.wrap (k : Int) = (k : Int) := by rw [IntKind.wrap_i64]; omega
            have e9 : (j : Int) - 1 = (k : Int) := by omega
            have hjI : (j : Int) > (a : Int) := by omega
            have hkI : (k : Int) < (N : Int) := by omega
            have hjI2 : (j : Int) < (N : Int) := by omega
            have hj0 : 1 ≤ j := by omega
            have HJ : Hid _ := hjk
            clear HI hR hA1 hA2 hz hre hy hx hord hk hPk hjk
            obtain ⟨x1, x2, x3⟩ := x
            obtain ⟨y1, y2, y3⟩ := y
            dsimp only at c0 c1 c2 d0 d1 d2
            have HC : ∀ W, Hid (Calls Tryz.prog 49 _ W _) := fun W => cmplab_any x1 x2 x3 y1 y2 y3 W
            have hci := cmpI_lt x2 y2
            by_cases hc : x2 < y2
            · have hcl := hci.2 hc
              clear hci
              go_upto_region 4 with fail
              go_region_held (fun w' => w'.cell? ⟨g, j * 3, none⟩ = some (.int .i64 x1) ∧ w'.cell? ⟨g, j * 3 + 1, none⟩ = some (.int .i64 x2) ∧ w'.cell? ⟨g, j * 3 + 2, none⟩ = some (.int .i64 x3) ∧ w'.cell? ⟨g, k * 3, none⟩ = some (.int .i64 y1) ∧ w'.cell? ⟨g, k * 3 + 1, none⟩ = some (.int .i64 y2) ∧ w'.cell? ⟨g, k * 3 + 2, none⟩ = some (.int .i64 y3)) (refine ⟨?_, ?_, ?_, ?_, ?_, ?_⟩ <;> (repeat (first | assumption | apply cell_dr | apply cell_al)))
                (first
                  | (go_at_call 49; refine (Calls.mono (HC _).out ?_); rintro e w' ⟨rfl, rfl⟩))
              have HR2 : Hid (RowE ((wr.alloc (.cells #[.int .i64 x1, .int .i64 x2, .int .i64 x3] 41)).alloc (.cells #[.int .i64 y1, .int .i64 y2, .int .i64 y3] 41)) g cap ((X ++ B) ++ (y1, y2, y3) :: (x1, x2, x3) :: (A2 ++ D.drop (i - a + 1) ++ Y))) := (HRr.out.kept (World.grownBy_alloc _ _ none) (by simp)).kept (World.grownBy_alloc _ _ none) (by simp)
              have HG2 : Hid (w.grownBy ((wr.alloc (.cells #[.int .i64 x1, .int .i64 x2, .int .i64 x3] 41)).alloc (.cells #[.int .i64 y1, .int .i64 y2, .int .i64 y3] 41)) (some g)) := (HG1.out.trans (World.grownBy_alloc _ _ _)).trans (World.grownBy_alloc _ _ _)
              clear c0 c1 c2 d0 d1 d2
              revert HR2 HG2
              generalize (wr.alloc _).alloc _ = W2
              intro HR2 HG2
              have hR := HR2.out
              obtain ⟨c0, c1, c2⟩ := hR.cells HX.out.1
              obtain ⟨d0, d1, d2⟩ := hR.cells HX.out.2.1
              have f0 := hR.frozen (k * 3)
              have f1 := hR.frozen (k * 3 + 1)
              have f2 := hR.frozen (k * 3 + 2)
              have g0 := hR.frozen (j * 3)
              have g1 := hR.frozen (j * 3 + 1)
              have g2 := hR.frozen (j * 3 + 2)
              have hne : j ≠ k := by omega
              have hR2 := hR.swp HX.out.2.1 HX.out.1
              have HI2 : Hid (RowE _ g cap (X ++ B ++ (x1, x2, x3) :: ((y1, y2, y3) :: A2) ++ D.drop (i - a + 1) ++ Y)) := (by
                have e := swp_back (X ++ B) (A2 ++ D.drop (i - a + 1) ++ Y) (y1, y2, y3) (x1, x2, x3)
                rw [HX.out.2.2.2.1, ← HJ.out] at e
                rw [e] at hR2
                simpa using hR2 : RowE _ g cap _)
              have HG3 : Hid (w.grownBy _ (some g)) := HG2.out.trans (gb_six W2 g (j * 3) (j * 3 + 1) (j * 3 + 2) (k * 3) (k * 3 + 1) (k * 3 + 2) (.int .i64 y1) (.int .i64 y2) (.int .i64 y3) (.int .i64 x1) (.int .i64 x2) (.int .i64 x3))
              clear hR hR2
              go_wp2_with fail
              go_region
              clear c0 c1 c2 d0 d1 d2 f0 f1 f2 g0 g1 g2
              revert HG3 HI2
              generalize (((((W2.setCell _ _).setCell _ _).setCell _ _).setCell _ _).setCell _ _).setCell _ _ = W3
              intro HI2 HG3
              have HN : Hid ((∃ A1 A3, RowE W3 g cap (X ++ A1 ++ (x1, x2, x3) :: A3 ++ D.drop (i - a + 1) ++ Y) ∧ a + A1.length = k ∧ A1 ++ A3 = A ∧ ∀ z ∈ A3, Gm.lt2 (x1, x2, x3) z = true) ∧ w.grownBy W3 (some g)) := (⟨⟨B, (y1, y2, y3) :: A2, HI2.out, HX.out.2.2.2.2.1, by rw [← HX.out.2.2.2.2.2.1]; simp, fun z hz => by
                rcases List.mem_cons.1 hz with rfl | hz
                · exact HX.out.2.2.1.1.2 hc
                · exact HX.out.2.2.2.2.2.2.1 z hz⟩, HG3.out⟩ : _ ∧ _)
              clear HI2 HG3 HR2 HG2
              go_wp2
              go_roundw
              case rel => exact ⟨k, by omega, by omega, rfl, HN.out.1, gb_dn1 (gb_dn1 HN.out.2)⟩
              case measure => simp [intOf]; omega
            · have hcl : ¬ Lib.compareInt x2 y2 < 0 := fun h => hc (hci.1 h)
              clear hci
              go_upto_region 4 with fail
              go_region_held (fun w' => w'.cell? ⟨g, j * 3, none⟩ = some (.int .i64 x1) ∧ w'.cell? ⟨g, j * 3 + 1, none⟩ = some (.int .i64 x2) ∧ w'.cell? ⟨g, j * 3 + 2, none⟩ = some (.int .i64 x3) ∧ w'.cell? ⟨g, k * 3, none⟩ = some (.int .i64 y1) ∧ w'.cell? ⟨g, k * 3 + 1, none⟩ = some (.int .i64 y2) ∧ w'.cell? ⟨g, k * 3 + 2, none⟩ = some (.int .i64 y3)) (refine ⟨?_, ?_, ?_, ?_, ?_, ?_⟩ <;> (repeat (first | assumption | apply cell_dr | apply cell_al)))
                (first
                  | (go_at_call 49; refine (Calls.mono (HC _).out ?_); rintro e w' ⟨rfl, rfl⟩))
              have HR2 : Hid (RowE ((wr.alloc (.cells #[.int .i64 x1, .int .i64 x2, .int .i64 x3] 41)).alloc (.cells #[.int .i64 y1, .int .i64 y2, .int .i64 y3] 41)) g cap ((X ++ B) ++ (y1, y2, y3) :: (x1, x2, x3) :: (A2 ++ D.drop (i - a + 1) ++ Y))) := (HRr.out.kept (World.grownBy_alloc _ _ none) (by simp)).kept (World.grownBy_alloc _ _ none) (by simp)
              have HG2 : Hid (w.grownBy ((wr.alloc (.cells #[.int .i64 x1, .int .i64 x2, .int .i64 x3] 41)).alloc (.cells #[.int .i64 y1, .int .i64 y2, .int .i64 y3] 41)) (some g)) := (HG1.out.trans (World.grownBy_alloc _ _ _)).trans (World.grownBy_alloc _ _ _)
              clear c0 c1 c2 d0 d1 d2
              revert HR2 HG2
              generalize (wr.alloc _).alloc _ = W2
              intro HR2 HG2
              have HN : Hid ((∃ A3 R, RowE W2 g cap (X ++ A3 ++ R ++ Y) ∧ A3.Perm (D.take (i + 1 - a)) ∧ R = D.drop (i + 1 - a) ∧ Gm.S2 A3) ∧ w.grownBy W2 (some g)) := (by
                have hst := ins_step HA.out.1 HA.out.2.1 HA.out.2.2.2.1 HX.out.2.2.2.2.2.1 HX.out.2.2.2.2.2.2.1 (by
                  have h := HA.out.2.1
                  rw [← HX.out.2.2.2.2.2.1] at h
                  exact Gm.s2_last B (y1, y2, y3) (x1, x2, x3) (List.pairwise_append.1 h).1 (HX.out.2.2.1.2.2 hc))
                refine ⟨⟨B ++ [(y1, y2, y3)] ++ (x1, x2, x3) :: A2, D.drop (i + 1 - a), ?_, ?_, rfl, hst.2⟩, HG2.out⟩
                · rw [show i + 1 - a = i - a + 1 by omega]; simpa using HR2.out
                · rw [show i + 1 - a = i - a + 1 by omega]; exact hst.1 : _ ∧ _)
              clear HR2 HG2
              go_wp2
              go_roundw
              case rel => exact ⟨i + 1, by omega, by omega, by go_num, HN.out.1, gb_dn1 HN.out.2⟩
              case measure => simp [intOf]; omega
          · obtain rfl : j = a := by omega
            have HN : Hid ((∃ A3 R, RowE wr g cap (X ++ A3 ++ R ++ Y) ∧ A3.Perm (D.take (i + 1 - j)) ∧ R = D.drop (i + 1 - j) ∧ Gm.S2 A3) ∧ w.grownBy wr (some g)) := (by
              obtain ⟨A1, A2, hR, hA1, hA2, hz⟩ := HI.out.1
              obtain rfl : A1 = [] := List.eq_nil_of_length_eq_zero (by omega)
              have hst := ins_step HA.out.1 HA.out.2.1 HA.out.2.2.2.1 hA2 hz (by simp)
              refine ⟨⟨[] ++ x :: A2, D.drop (i + 1 - j), ?_, ?_, rfl, hst.2⟩, HI.out.2⟩
              · rw [show i + 1 - j = i - j + 1 by omega]; simpa using hR
              · rw [show i + 1 - j = i - j + 1 by omega]; exact hst.1 : _ ∧ _)
            clear HI
            have hgd : ¬ (j : Int) > (j : Int) := by omega
            go_wp2_with fail
            go_quiet (fail)
            go_wp2
            go_roundw
            case rel => exact ⟨i + 1, by omega, by omega, by go_num, HN.out.1, gb_dnN _ _ _ HN.out.2 _⟩
            case measure => simp [intOf]; omega
      · obtain rfl : i = b := by omega
        have HE : Hid ((∃ D', RowE wr g cap (X ++ D' ++ Y) ∧ D'.Perm D ∧ Gm.S2 D') ∧ w.grownBy wr (some g)) := (by
          obtain ⟨A, R, hR, hA, rfl, hS⟩ := HI.out.1
          have hLo := HL.out
          rw [List.take_of_length_le (by omega)] at hA
          rw [List.drop_eq_nil_of_le (by omega), List.append_nil] at hR
          exact ⟨⟨A, hR, hA, hS⟩, HI.out.2⟩ : _ ∧ _)
        clear HI
        go_wp2
        go_end0
        exact ⟨rfl, HE.out⟩
end Go.Proofs.YtphjbbbnbmafnabGreatDoor.G
