/-
  slices' symMerge over a block of edges, by compareLabels, where one side is a single edge: it is put in its place; nothing else is written.
  slices' symMerge over a block of edges, by compareLabels, where the right side is a single edge: it is put in its place; nothing else is written.
-/
import Derived.Test.YtphjbbbnbmafnabGreatDoorIns
namespace Go.Proofs.YtphjbbbnbmafnabGreatDoor.G
open Go.RowKit

theorem mem_take_at {l : List E3} {k : Nat} {z : E3} (h : z ∈ l.take k) : ∃ t, t < k ∧ l[t]? = some z := by
  obtain ⟨t, ht⟩ := List.mem_iff_getElem?.1 h
  rw [List.getElem?_take] at ht
  split at ht
  · exact ⟨t, by assumption, ht⟩
  · cases ht
theorem mem_drop_at {l : List E3} {k : Nat} {z : E3} (h : z ∈ l.drop k) : ∃ t, k ≤ t ∧ l[t]? = some z := by
  obtain ⟨t, ht⟩ := List.mem_iff_getElem?.1 h
  rw [List.getElem?_drop] at ht
  exact ⟨k + t, by omega, ht⟩
theorem s2_lab {l : List E3} (h : Gm.S2 l) {s t : Nat} {y z : E3} (hs : l[s]? = some y) (ht : l[t]? = some z) (hst : s ≤ t) : y.2.1 ≤ z.2.1 := by
  rcases Nat.lt_or_ge s t with h1 | h1
  · have hl := List.pairwise_iff_getElem.1 h s t (len_of hs) (len_of ht) h1
    rw [List.getElem?_eq_getElem (len_of hs)] at hs
    rw [List.getElem?_eq_getElem (len_of ht)] at ht
    rw [Option.some.inj hs, Option.some.inj ht, Gm.lt2_iff] at hl
    omega
  · obtain rfl : s = t := by omega
    rw [hs] at ht
    rw [Option.some.inj ht]
    exact Int.le_refl _
theorem two_new {w W : World} {g cap : Nat} {L : List E3} (h : RowE W g cap L ∧ w.grownBy W (some g)) (o o2 : Obj) : RowE ((W.alloc o).alloc o2) g cap L ∧ w.grownBy ((W.alloc o).alloc o2) (some g) :=
  ⟨(h.1.kept (World.grownBy_alloc _ _ none) (by simp)).kept (World.grownBy_alloc _ _ none) (by simp), (h.2.trans (World.grownBy_alloc _ _ _)).trans (World.grownBy_alloc _ _ _)⟩
theorem swp_next (P Q : List E3) (y x : E3) : swp (P ++ y :: x :: Q) P.length (P.length + 1) = P ++ x :: y :: Q := by
  have := swp_lists P [] Q y x
  simpa using this
set_option maxHeartbeats 8000000 in
set_option maxRecDepth 100000 in
theorem symm_one (X B Y : List E3) (x : E3) (a m b N g cap : Nat) (w : World) (h : RowE w g cap (X ++ [x] ++ B ++ Y)) (ha : X.length = a) (hm : a + 1 = m) (hb : m + B.length = b) (hN : b + Y.length = N) (hl : N ≤ 1000000) (hS : Gm.S2 B) (hbef : ∀ y ∈ B, Gm.ltE x y = true) :
    Calls Tryz.prog 128 #[.slice (some ⟨g, 0, none⟩) N cap, .int .i64 (a : Int), .int .i64 (m : Int), .int .i64 (b : Int), .func (.func 49) #[] #[]] w fun e w' => e = .returned (.tuple #[]) ∧ (∃ M, RowE w' g cap (X ++ M ++ Y) ∧ M.Perm ([x] ++ B) ∧ Gm.S2 M) ∧ w.grownBy w' (some g) := by
  have hma : ((m : Int) - (a : Int) == 1) = true := by simpa using (by omega : (m : Int) - (a : Int) = 1)
  have H0 : Hid _ := h
  have HS : Hid _ := hS
  have HB : Hid _ := hbef
  have HL : Hid _ := And.intro ha (And.intro hm (And.intro hb hN))
  have hxa : (X ++ [x] ++ B ++ Y)[a]? = some x := by rw [← ha]; simp
  have hBat : ∀ t y, B[t]? = some y → (X ++ [x] ++ B ++ Y)[m + t]? = some y := fun t y hy => by
    have ht := len_of hy
    rw [List.append_assoc, List.getElem?_append_right (by simp; omega), List.getElem?_append_left (by simp; omega)]
    rw [show m + t - (X ++ [x]).length = t by simp; omega]; exact hy
  have HBA : Hid _ := hBat
  have HXA : Hid _ := hxa
  have hmb : m ≤ b := by omega
  have hbN : b ≤ N := by omega
  have ham : a < m := by omega
  clear h hS hbef ha hm hb hN hBat hxa
  go_enter Tryz.func128, Tryz.ntmps128
  go_wp2
  go_loopw [10, 11] (fun si sj wr => ∃ i j : Nat, m ≤ i ∧ i ≤ j ∧ j ≤ b ∧ si = .int .i64 (i : Int) ∧ sj = .int .i64 (j : Int) ∧ Hid (RowE wr g cap (X ++ [x] ++ B ++ Y) ∧ w.grownBy wr (some g) ∧ (∀ t y, B[t]? = some y → m + t < i → y.2.1 < x.2.1) ∧ (∀ t y, B[t]? = some y → j ≤ m + t → ¬ y.2.1 < x.2.1))) (fun si sj _ => (intOf sj).toNat - (intOf si).toNat)
  case atStart => exact ⟨m, b, Nat.le_refl _, hmb, Nat.le_refl _, rfl, rfl, H0.out, ⟨rfl, rfl, rfl, Nat.le_refl _, fun _ _ _ => rfl⟩, fun t y _ h2 => by omega, fun t y hy h2 => by have := len_of hy; have := HL.out; omega⟩
  case round =>
    obtain ⟨i, j, hi1, hij, hjb, rfl, rfl, HI⟩ := hrel
    by_cases hlt : i < j
    · obtain ⟨q, hq⟩ : ∃ q, q = (i + j) / 2 := ⟨_, rfl⟩
      have hh : ((i : Int) + (j : Int)) / 2 = (q : Int) := by omega
      have hqi : i ≤ q := by omega
      have hqj : q < j := by omega
      obtain ⟨y, hy⟩ : ∃ y, B[q - m]? = some y := ⟨_, List.getElem?_eq_getElem (by have := HL.out; omega)⟩
      have hyq := HBA.out _ _ hy
      rw [show m + (q - m) = q by omega] at hyq
      obtain ⟨c0, c1, c2⟩ := HI.out.1.cells hyq
      obtain ⟨d0, d1, d2⟩ := HI.out.1.cells HXA.out
      have HY : Hid _ := hy
      clear hy hyq hq
      have HX : Hid (RowE wr g cap (X ++ [x] ++ B ++ Y) ∧ w.grownBy wr (some g)) := (⟨HI.out.1, HI.out.2.1⟩ : _ ∧ _)
      have HP : Hid ((∀ t y, B[t]? = some y → m + t < i → y.2.1 < x.2.1) ∧ (∀ t y, B[t]? = some y → j ≤ m + t → ¬ y.2.1 < x.2.1)) := HI.out.2.2
      clear HI
      have hqN : q < N := by omega
      have haN : a < N := by omega
      obtain ⟨x1, x2, x3⟩ := x
      obtain ⟨y1, y2, y3⟩ := y
      dsimp only at c0 c1 c2 d0 d1 d2
      have HC : ∀ W, Hid (Calls Tryz.prog 49 _ W _) := fun W => cmplab_any y1 y2 y3 x1 x2 x3 W
      have hci := cmpI_lt y2 x2
      by_cases hc : y2 < x2
      · have hcl := hci.2 hc
        clear hci
        go_upto_region 5 with fail
        go_region_held (fun w' => w'.cell? ⟨g, q * 3, none⟩ = some (.int .i64 y1) ∧ w'.cell? ⟨g, q * 3 + 1, none⟩ = some (.int .i64 y2) ∧ w'.cell? ⟨g, q * 3 + 2, none⟩ = some (.int .i64 y3) ∧ w'.cell? ⟨g, a * 3, none⟩ = some (.int .i64 x1) ∧ w'.cell? ⟨g, a * 3 + 1, none⟩ = some (.int .i64 x2) ∧ w'.cell? ⟨g, a * 3 + 2, none⟩ = some (.int .i64 x3)) (refine ⟨?_, ?_, ?_, ?_, ?_, ?_⟩ <;> (repeat (first | assumption | apply cell_dr | apply cell_al)))
          (first
            | (go_at_call 49; refine (Calls.mono (HC _).out ?_); rintro e w' ⟨rfl, rfl⟩))
        have H2 : Hid _ := two_new HX.out (.cells #[.int .i64 y1, .int .i64 y2, .int .i64 y3] 41) (.cells #[.int .i64 x1, .int .i64 x2, .int .i64 x3] 41)
        clear c0 c1 c2 d0 d1 d2
        revert H2
        generalize (wr.alloc _).alloc _ = W2
        intro H2
        go_wp2
        go_roundw
        case rel => exact ⟨q + 1, j, by omega, by omega, hjb, by go_num, rfl, H2.out.1, gb_dn1 H2.out.2, fun t z hz h2 => by
          have := s2_lab HS.out hz HY.out (by omega)
          have hc' : y2 < x2 := hc
          have h3 : z.2.1 ≤ y2 := this
          show z.2.1 < x2
          omega, fun t z hz h2 => Int.not_lt.2 (HP.out.2 t z hz h2)⟩
        case measure => simp [intOf]; omega
      · have hcl : ¬ Lib.compareInt y2 x2 < 0 := fun h => hc (hci.1 h)
        clear hci
        go_upto_region 5 with fail
        go_region_held (fun w' => w'.cell? ⟨g, q * 3, none⟩ = some (.int .i64 y1) ∧ w'.cell? ⟨g, q * 3 + 1, none⟩ = some (.int .i64 y2) ∧ w'.cell? ⟨g, q * 3 + 2, none⟩ = some (.int .i64 y3) ∧ w'.cell? ⟨g, a * 3, none⟩ = some (.int .i64 x1) ∧ w'.cell? ⟨g, a * 3 + 1, none⟩ = some (.int .i64 x2) ∧ w'.cell? ⟨g, a * 3 + 2, none⟩ = some (.int .i64 x3)) (refine ⟨?_, ?_, ?_, ?_, ?_, ?_⟩ <;> (repeat (first | assumption | apply cell_dr | apply cell_al)))
          (first
            | (go_at_call 49; refine (Calls.mono (HC _).out ?_); rintro e w' ⟨rfl, rfl⟩))
        have H2 : Hid _ := two_new HX.out (.cells #[.int .i64 y1, .int .i64 y2, .int .i64 y3] 41) (.cells #[.int .i64 x1, .int .i64 x2, .int .i64 x3] 41)
        clear c0 c1 c2 d0 d1 d2
        revert H2
        generalize (wr.alloc _).alloc _ = W2
        intro H2
        go_wp2
        go_roundw
        case rel => exact ⟨i, q, by omega, by omega, by omega, rfl, by go_num, H2.out.1, gb_dn1 H2.out.2, HP.out.1, fun t z hz h2 => by
          have := s2_lab HS.out HY.out hz (by omega)
          have h3 : y2 ≤ z.2.1 := this
          show ¬ z.2.1 < x2
          omega⟩
        case measure => simp [intOf]; omega
    · obtain rfl : i = j := by omega
      have HM : Hid (Gm.S2 (B.take (i - m) ++ x :: B.drop (i - m))) := (by
        refine Gm.s2_between _ _ x (by rw [List.take_append_drop]; exact HS.out) (fun z hz => ?_) (fun z hz => ?_)
        · obtain ⟨t, ht, hzt⟩ := mem_drop_at hz
          exact ((Gm.lt2_late z x (HB.out z (List.mem_of_getElem? hzt))).2).2 (HI.out.2.2.2 t z hzt (by omega))
        · obtain ⟨t, ht, hzt⟩ := mem_take_at hz
          exact ((Gm.lt2_late z x (HB.out z (List.mem_of_getElem? hzt))).1).2 (HI.out.2.2.1 t z hzt (by omega)) : Gm.S2 _)
      have HK0 : Hid (RowE wr g cap (X ++ B.take (a - a) ++ x :: B.drop (a - a) ++ Y) ∧ w.grownBy wr (some g)) := (by
        rw [Nat.sub_self]
        exact ⟨by simpa using HI.out.1, HI.out.2.1⟩ : _ ∧ _)
      have hi1I : (i : Int) - 1 = ((i - 1 : Nat) : Int) := by omega
      clear HI
      go_wp2
      go_loopw [13] (fun sk wr => ∃ k : Nat, a ≤ k ∧ k ≤ i - 1 ∧ sk = .int .i64 (k : Int) ∧ Hid (RowE wr g cap (X ++ B.take (k - a) ++ x :: B.drop (k - a) ++ Y) ∧ w.grownBy wr (some g))) (fun sk _ => i - (intOf sk).toNat)
      case atStart => exact ⟨a, Nat.le_refl _, by omega, rfl, HK0.out⟩
      case round =>
        obtain ⟨k, hk1, hk2, rfl, HI⟩ := hrel
        by_cases hlt2 : k < i - 1
        · obtain ⟨y, hy⟩ : ∃ y, B[k - a]? = some y := ⟨_, List.getElem?_eq_getElem (by have := HL.out; omega)⟩
          have hPk : (X ++ B.take (k - a)).length = k := by rw [List.length_append, List.length_take]; have := HL.out; have := len_of hy; omega
          have e1 : B.drop (k - a) = y :: B.drop (k - a + 1) := by rw [List.drop_eq_getElem_cons (len_of hy)]; congr 1; rw [List.getElem?_eq_getElem (len_of hy)] at hy; exact Option.some.inj hy
          have e2 : B.take (k - a + 1) = B.take (k - a) ++ [y] := by rw [List.take_add_one, hy]; rfl
          have hre : X ++ B.take (k - a) ++ x :: B.drop (k - a) ++ Y = (X ++ B.take (k - a)) ++ x :: y :: (B.drop (k - a + 1) ++ Y) := by rw [e1]; simp
          have hR := HI.out.1
          rw [hre] at hR
          have hxk : ((X ++ B.take (k - a)) ++ x :: y :: (B.drop (k - a + 1) ++ Y))[k]? = some x := by
            have := List.getElem?_append_right (l₁ := X ++ B.take (k - a)) (l₂ := x :: y :: (B.drop (k - a + 1) ++ Y)) (i := k) (by omega)
            rw [this, hPk, Nat.sub_self]; rfl
          have hyk : ((X ++ B.take (k - a)) ++ x :: y :: (B.drop (k - a + 1) ++ Y))[k + 1]? = some y := by
            have := List.getElem?_append_right (l₁ := X ++ B.take (k - a)) (l₂ := x :: y :: (B.drop (k - a + 1) ++ Y)) (i := k + 1) (by omega)
            rw [this, hPk, show k + 1 - k = 1 by omega]; rfl
          have hsw := swp_next (X ++ B.take (k - a)) (B.drop (k - a + 1) ++ Y) x y
          rw [hPk] at hsw
          have hR2 := hR.swp hxk hyk
          rw [hsw] at hR2
          obtain ⟨c0, c1, c2⟩ := hR.cells hxk
          obtain ⟨d0, d1, d2⟩ := hR.cells hyk
          have f0 := hR.frozen (k * 3)
          have f1 := hR.frozen (k * 3 + 1)
          have f2 := hR.frozen (k * 3 + 2)
          have g0 := hR.frozen ((k + 1) * 3)
          have g1 := hR.frozen ((k + 1) * 3 + 1)
          have g2 := hR.frozen ((k + 1) * 3 + 2)
          have HI2 : Hid (RowE _ g cap (X ++ B.take (k + 1 - a) ++ x :: B.drop (k + 1 - a) ++ Y)) := (by
            rw [show k + 1 - a = k - a + 1 by omega, e2]
            simpa using hR2 : RowE _ g cap _)
          have HG1 : Hid _ := HI.out.2
          have hne : k + 1 ≠ k := by omega
          have hkN : k + 1 < N := by omega
          have hkI : (k : Int) < ((i - 1 : Nat) : Int) := by omega
          clear hR hR2 hsw hxk hyk hre e1 e2 hPk hy HI
          obtain ⟨x1, x2, x3⟩ := x
          obtain ⟨y1, y2, y3⟩ := y
          dsimp only at c0 c1 c2 d0 d1 d2
          have HG3 : Hid (w.grownBy _ (some g)) := HG1.out.trans (gb_six wr g (k * 3) (k * 3 + 1) (k * 3 + 2) ((k + 1) * 3) ((k + 1) * 3 + 1) ((k + 1) * 3 + 2) (.int .i64 y1) (.int .i64 y2) (.int .i64 y3) (.int .i64 x1) (.int .i64 x2) (.int .i64 x3))
          go_wp2_with fail
          go_region
          clear c0 c1 c2 d0 d1 d2 f0 f1 f2 g0 g1 g2
          revert HG3 HI2
          generalize (((((wr.setCell _ _).setCell _ _).setCell _ _).setCell _ _).setCell _ _).setCell _ _ = W3
          intro HI2 HG3
          go_wp2
          go_roundw
          case rel => exact ⟨k + 1, by omega, by omega, by go_num, HI2.out, gb_dn1 HG3.out⟩
          case measure => simp [intOf]; omega
        · obtain rfl : k = i - 1 := by omega
          have HE : Hid ((∃ M, RowE wr g cap (X ++ M ++ Y) ∧ M.Perm ([x] ++ B) ∧ Gm.S2 M) ∧ w.grownBy wr (some g)) := (by
            have h2 := HI.out
            rw [show i - 1 - a = i - m by have := HL.out; omega] at h2
            refine ⟨⟨_, by simpa using h2.1, ?_, HM.out⟩, h2.2⟩
            refine List.perm_middle.trans ?_
            rw [List.take_append_drop]
            exact List.Perm.refl _ : _ ∧ _)
          clear HI
          go_wp2
          refine bodyPost_ret (results_none rfl _ _ _) rfl ?_
          exact ⟨rfl, HE.out⟩
end Go.Proofs.YtphjbbbnbmafnabGreatDoor.G

namespace Go.Proofs.YtphjbbbnbmafnabGreatDoor.G
open Go.RowKit

set_option maxHeartbeats 8000000 in
set_option maxRecDepth 100000 in
theorem symm_two (X A Y : List E3) (y : E3) (a m b N g cap : Nat) (w : World) (h : RowE w g cap (X ++ A ++ [y] ++ Y)) (ha : X.length = a) (hm : a + A.length = m) (hA2 : 2 ≤ A.length) (hb : m + 1 = b) (hN : b + Y.length = N) (hl : N ≤ 1000000) (hS : Gm.S2 A) (hbef : ∀ z ∈ A, Gm.ltE z y = true) :
    Calls Tryz.prog 128 #[.slice (some ⟨g, 0, none⟩) N cap, .int .i64 (a : Int), .int .i64 (m : Int), .int .i64 (b : Int), .func (.func 49) #[] #[]] w fun e w' => e = .returned (.tuple #[]) ∧ (∃ M, RowE w' g cap (X ++ M ++ Y) ∧ M.Perm (A ++ [y]) ∧ Gm.S2 M) ∧ w.grownBy w' (some g) := by
  have hma : ((m : Int) - (a : Int) == 1) = false := by simpa using (by omega : ¬ (m : Int) - (a : Int) = 1)
  have hmb : ((b : Int) - (m : Int) == 1) = true := by simpa using (by omega : (b : Int) - (m : Int) = 1)
  have H0 : Hid _ := h
  have HS : Hid _ := hS
  have HB : Hid _ := hbef
  have HL : Hid _ := And.intro ha (And.intro hm (And.intro hb hN))
  have hym : (X ++ A ++ [y] ++ Y)[m]? = some y := by
    rw [List.getElem?_append_left (by simp; omega), List.getElem?_append_right (by simp; omega), show m - (X ++ A).length = 0 by simp; omega]; rfl
  have hAat : ∀ t z, A[t]? = some z → (X ++ A ++ [y] ++ Y)[a + t]? = some z := fun t z hz => by
    have ht := len_of hz
    rw [List.getElem?_append_left (by simp; omega), List.getElem?_append_left (by simp; omega), List.getElem?_append_right (by omega)]
    rw [show a + t - X.length = t by omega]; exact hz
  have HAA : Hid _ := hAat
  have HYM : Hid _ := hym
  have ham : a ≤ m := by omega
  have hmN : m < N := by omega
  have hbN : b ≤ N := by omega
  clear h hS hbef ha hm hb hN hAat hym hA2
  go_enter Tryz.func128, Tryz.ntmps128
  go_wp2
  go_loopw [14, 15] (fun si sj wr => ∃ i j : Nat, a ≤ i ∧ i ≤ j ∧ j ≤ m ∧ si = .int .i64 (i : Int) ∧ sj = .int .i64 (j : Int) ∧ Hid (RowE wr g cap (X ++ A ++ [y] ++ Y) ∧ w.grownBy wr (some g) ∧ (∀ t z, A[t]? = some z → a + t < i → z.2.1 ≤ y.2.1) ∧ (∀ t z, A[t]? = some z → j ≤ a + t → y.2.1 < z.2.1))) (fun si sj _ => (intOf sj).toNat - (intOf si).toNat)
  case atStart => exact ⟨a, m, Nat.le_refl _, ham, Nat.le_refl _, rfl, rfl, H0.out, ⟨rfl, rfl, rfl, Nat.le_refl _, fun _ _ _ => rfl⟩, fun t z _ h2 => by omega, fun t z hz h2 => by have := len_of hz; have := HL.out; omega⟩
  case round =>
    obtain ⟨i, j, hi1, hij, hjb, rfl, rfl, HI⟩ := hrel
    by_cases hlt : i < j
    · obtain ⟨q, hq⟩ : ∃ q, q = (i + j) / 2 := ⟨_, rfl⟩
      have hh : ((i : Int) + (j : Int)) / 2 = (q : Int) := by omega
      have hqi : i ≤ q := by omega
      have hqj : q < j := by omega
      obtain ⟨z, hz⟩ : ∃ z, A[q - a]? = some z := ⟨_, List.getElem?_eq_getElem (by have := HL.out; omega)⟩
      have hzq := HAA.out _ _ hz
      rw [show a + (q - a) = q by omega] at hzq
      obtain ⟨c0, c1, c2⟩ := HI.out.1.cells hzq
      obtain ⟨d0, d1, d2⟩ := HI.out.1.cells HYM.out
      have HZ : Hid _ := hz
      clear hz hzq hq
      have HX : Hid (RowE wr g cap (X ++ A ++ [y] ++ Y) ∧ w.grownBy wr (some g)) := (⟨HI.out.1, HI.out.2.1⟩ : _ ∧ _)
      have HP : Hid ((∀ t z, A[t]? = some z → a + t < i → z.2.1 ≤ y.2.1) ∧ (∀ t z, A[t]? = some z → j ≤ a + t → y.2.1 < z.2.1)) := HI.out.2.2
      clear HI
      have hqN : q < N := by omega
      obtain ⟨y1, y2, y3⟩ := y
      obtain ⟨z1, z2, z3⟩ := z
      dsimp only at c0 c1 c2 d0 d1 d2
      have HC : ∀ W, Hid (Calls Tryz.prog 49 _ W _) := fun W => cmplab_any y1 y2 y3 z1 z2 z3 W
      have hci := cmpI_lt y2 z2
      by_cases hc : y2 < z2
      · have hcl : decide (Lib.compareInt y2 z2 < 0) = true := decide_eq_true (hci.2 hc)
        clear hci
        go_upto_region 17 with fail
        go_region_held (fun w' => w'.cell? ⟨g, m * 3, none⟩ = some (.int .i64 y1) ∧ w'.cell? ⟨g, m * 3 + 1, none⟩ = some (.int .i64 y2) ∧ w'.cell? ⟨g, m * 3 + 2, none⟩ = some (.int .i64 y3) ∧ w'.cell? ⟨g, q * 3, none⟩ = some (.int .i64 z1) ∧ w'.cell? ⟨g, q * 3 + 1, none⟩ = some (.int .i64 z2) ∧ w'.cell? ⟨g, q * 3 + 2, none⟩ = some (.int .i64 z3)) (refine ⟨?_, ?_, ?_, ?_, ?_, ?_⟩ <;> (repeat (first | assumption | apply cell_dr | apply cell_al)))
          (first
            | (go_at_call 49; refine (Calls.mono (HC _).out ?_); rintro e w' ⟨rfl, rfl⟩))
        have H2 : Hid _ := two_new HX.out (.cells #[.int .i64 y1, .int .i64 y2, .int .i64 y3] 41) (.cells #[.int .i64 z1, .int .i64 z2, .int .i64 z3] 41)
        clear c0 c1 c2 d0 d1 d2
        revert H2
        generalize (wr.alloc _).alloc _ = W2
        intro H2
        go_wp2
        go_roundw
        case rel => exact ⟨i, q, by omega, by omega, by omega, rfl, by go_num, H2.out.1, gb_dn1 H2.out.2, HP.out.1, fun t u hu h2 => by
          have := s2_lab HS.out HZ.out hu (by omega)
          have h3 : z2 ≤ u.2.1 := this
          show y2 < u.2.1
          omega⟩
        case measure => simp [intOf]; omega
      · have hcl : decide (Lib.compareInt y2 z2 < 0) = false := decide_eq_false (fun h => hc (hci.1 h))
        clear hci
        go_upto_region 17 with fail
        go_region_held (fun w' => w'.cell? ⟨g, m * 3, none⟩ = some (.int .i64 y1) ∧ w'.cell? ⟨g, m * 3 + 1, none⟩ = some (.int .i64 y2) ∧ w'.cell? ⟨g, m * 3 + 2, none⟩ = some (.int .i64 y3) ∧ w'.cell? ⟨g, q * 3, none⟩ = some (.int .i64 z1) ∧ w'.cell? ⟨g, q * 3 + 1, none⟩ = some (.int .i64 z2) ∧ w'.cell? ⟨g, q * 3 + 2, none⟩ = some (.int .i64 z3)) (refine ⟨?_, ?_, ?_, ?_, ?_, ?_⟩ <;> (repeat (first | assumption | apply cell_dr | apply cell_al)))
          (first
            | (go_at_call 49; refine (Calls.mono (HC _).out ?_); rintro e w' ⟨rfl, rfl⟩))
        have H2 : Hid _ := two_new HX.out (.cells #[.int .i64 y1, .int .i64 y2, .int .i64 y3] 41) (.cells #[.int .i64 z1, .int .i64 z2, .int .i64 z3] 41)
        clear c0 c1 c2 d0 d1 d2
        revert H2
        generalize (wr.alloc _).alloc _ = W2
        intro H2
        go_wp2
        go_roundw
        case rel => exact ⟨q + 1, j, by omega, by omega, hjb, by go_num, rfl, H2.out.1, gb_dn1 H2.out.2, fun t u hu h2 => by
          have := s2_lab HS.out hu HZ.out (by omega)
          have h3 : u.2.1 ≤ z2 := this
          show u.2.1 ≤ y2
          omega, HP.out.2⟩
        case measure => simp [intOf]; omega
    · obtain rfl : i = j := by omega
      have HM : Hid (Gm.S2 (A.take (i - a) ++ y :: A.drop (i - a))) := (by
        refine Gm.s2_between _ _ y (by rw [List.take_append_drop]; exact HS.out) (fun z hz => ?_) (fun z hz => ?_)
        · obtain ⟨t, ht, hzt⟩ := mem_drop_at hz
          exact ((Gm.lt2_late y z (HB.out z (List.mem_of_getElem? hzt))).1).2 (HI.out.2.2.2 t z hzt (by omega))
        · obtain ⟨t, ht, hzt⟩ := mem_take_at hz
          have := HI.out.2.2.1 t z hzt (by omega)
          exact ((Gm.lt2_late y z (HB.out z (List.mem_of_getElem? hzt))).2).2 (by omega) : Gm.S2 _)
      have HK0 : Hid (RowE wr g cap (X ++ A.take (m - a) ++ y :: A.drop (m - a) ++ Y) ∧ w.grownBy wr (some g)) := (by
        have hLo := HL.out
        rw [List.take_of_length_le (by omega), List.drop_eq_nil_of_le (by omega)]
        exact ⟨by simpa using HI.out.1, HI.out.2.1⟩ : _ ∧ _)
      clear HI
      go_wp2
      go_loopw [17] (fun sk wr => ∃ k : Nat, i ≤ k ∧ k ≤ m ∧ sk = .int .i64 (k : Int) ∧ Hid (RowE wr g cap (X ++ A.take (k - a) ++ y :: A.drop (k - a) ++ Y) ∧ w.grownBy wr (some g))) (fun sk _ => (intOf sk).toNat)
      case atStart => exact ⟨m, by omega, Nat.le_refl _, rfl, HK0.out⟩
      case round =>
        obtain ⟨k, hk1, hk2, rfl, HI⟩ := hrel
        by_cases hlt2 : k > i
        · obtain ⟨p, hp⟩ : ∃ p, k = p + 1 := ⟨k - 1, by omega⟩
          obtain ⟨z, hz⟩ : ∃ z, A[p - a]? = some z := ⟨_, List.getElem?_eq_getElem (by have := HL.out; omega)⟩
          have hPk : (X ++ A.take (p - a)).length = p := by rw [List.length_append, List.length_take]; have := HL.out; have := len_of hz; omega
          have e1 : A.drop (p - a) = z :: A.drop (p - a + 1) := by rw [List.drop_eq_getElem_cons (len_of hz)]; congr 1; rw [List.getElem?_eq_getElem (len_of hz)] at hz; exact Option.some.inj hz
          have e2 : A.take (p - a + 1) = A.take (p - a) ++ [z] := by rw [List.take_add_one, hz]; rfl
          have e3 : k - a = p - a + 1 := by omega
          have hre : X ++ A.take (k - a) ++ y :: A.drop (k - a) ++ Y = (X ++ A.take (p - a)) ++ z :: y :: (A.drop (p - a + 1) ++ Y) := by rw [e3, e2]; simp
          have hR := HI.out.1
          rw [hre] at hR
          have hzk : ((X ++ A.take (p - a)) ++ z :: y :: (A.drop (p - a + 1) ++ Y))[p]? = some z := by
            have := List.getElem?_append_right (l₁ := X ++ A.take (p - a)) (l₂ := z :: y :: (A.drop (p - a + 1) ++ Y)) (i := p) (by omega)
            rw [this, hPk, Nat.sub_self]; rfl
          have hyk : ((X ++ A.take (p - a)) ++ z :: y :: (A.drop (p - a + 1) ++ Y))[k]? = some y := by
            have := List.getElem?_append_right (l₁ := X ++ A.take (p - a)) (l₂ := z :: y :: (A.drop (p - a + 1) ++ Y)) (i := k) (by omega)
            rw [this, hPk, show k - p = 1 by omega]; rfl
          have hsw := swp_back (X ++ A.take (p - a)) (A.drop (p - a + 1) ++ Y) z y
          rw [hPk, ← hp] at hsw
          have hR2 := hR.swp hyk hzk
          rw [hsw] at hR2
          obtain ⟨c0, c1, c2⟩ := hR.cells hyk
          obtain ⟨d0, d1, d2⟩ := hR.cells hzk
          have f0 := hR.frozen (k * 3)
          have f1 := hR.frozen (k * 3 + 1)
          have f2 := hR.frozen (k * 3 + 2)
          have g0 := hR.frozen (p * 3)
          have g1 := hR.frozen (p * 3 + 1)
          have g2 := hR.frozen (p * 3 + 2)
          have HI2 : Hid (RowE _ g cap (X ++ A.take (p - a) ++ y :: A.drop (p - a) ++ Y)) := (by
            rw [e1]
            simpa using hR2 : RowE _ g cap _)
          have HG1 : Hid _ := HI.out.2
          have hne : k ≠ p := by omega
          have hkN : k < N := by omega
          have hpN : p < N := by omega
          have hkI : (k : Int) > (i : Int) := by omega
          have e8 : IntKind.i64.wrap (p : Int) = (p : Int) := by rw [IntKind.wrap_i64]; omega
          have e9 : (k : Int) - 1 = (p : Int) := by omega
          have hip : i ≤ p := by omega
          have HPK : Hid _ := hp
          clear hR hR2 hsw hzk hyk hre e1 e2 e3 hPk hz HI hp
          obtain ⟨y1, y2, y3⟩ := y
          obtain ⟨z1, z2, z3⟩ := z
          dsimp only at c0 c1 c2 d0 d1 d2
          have HG3 : Hid (w.grownBy _ (some g)) := HG1.out.trans (gb_six wr g (k * 3) (k * 3 + 1) (k * 3 + 2) (p * 3) (p * 3 + 1) (p * 3 + 2) (.int .i64 z1) (.int .i64 z2) (.int .i64 z3) (.int .i64 y1) (.int .i64 y2) (.int .i64 y3))
          go_wp2_with fail
          go_region
          clear c0 c1 c2 d0 d1 d2 f0 f1 f2 g0 g1 g2
          revert HG3 HI2
          generalize (((((wr.setCell _ _).setCell _ _).setCell _ _).setCell _ _).setCell _ _).setCell _ _ = W3
          intro HI2 HG3
          go_wp2
          go_roundw
          case rel => exact ⟨p, hip, by omega, rfl, HI2.out, gb_dn1 HG3.out⟩
          case measure => have := HPK.out; simp [intOf]; omega
        · obtain rfl : k = i := by omega
          have HE : Hid ((∃ M, RowE wr g cap (X ++ M ++ Y) ∧ M.Perm (A ++ [y]) ∧ Gm.S2 M) ∧ w.grownBy wr (some g)) := (by
            have h2 := HI.out
            refine ⟨⟨_, by simpa using h2.1, ?_, HM.out⟩, h2.2⟩
            refine List.perm_middle.trans ?_
            rw [List.take_append_drop]
            exact (List.perm_append_comm (l₁ := [y]) (l₂ := A)) : _ ∧ _)
          clear HI
          go_wp2
          refine bodyPost_ret (results_none rfl _ _ _) rfl ?_
          exact ⟨rfl, HE.out⟩
end Go.Proofs.YtphjbbbnbmafnabGreatDoor.G
