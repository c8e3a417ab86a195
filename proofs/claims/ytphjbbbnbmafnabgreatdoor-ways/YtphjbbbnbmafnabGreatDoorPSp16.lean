/-
  Where the numbers of a sequence of 16 bits would be, if they were in order: whole, sortedSpan, placeOf: what they answer; nothing that was there is written.
-/
import Derived.Test.YtphjbbbnbmafnabGreatDoorLeast16
import Derived.Test.YtphjbbbnbmafnabGreatDoorPEo
namespace Go.Proofs.YtphjbbbnbmafnabGreatDoor.S16
open Go.RowKit Go.Proofs.YtphjbbbnbmafnabGreatDoor

attribute [local go_sem ↓] Go.wp_at_zero Go.wp_at_succ
/-- the value of the method Below of a sequence -/
abbrev belowV (b : Nat) : Value := .func (.func 119) #[.pointer (some ⟨b, 0, none⟩)] #[]
set_option maxHeartbeats 1000000 in
theorem spansort1_any {w : World} {b g : Nat} {l : List Nat} (hs : SeqAt 16 w b g l) (x y : Nat) (hxy : x ≤ y) (hy : y ≤ l.length) (F X : Nat) (hF : w.cell? ⟨F, 0, none⟩ = some (belowV b)) (hX0 : w.cell? ⟨X, 0, none⟩ = some (.int .i64 (x : Int))) (hX1 : w.cell? ⟨X, 1, none⟩ = some (.int .i64 (y : Int))) (c : Nat) (hc : c < 2 ^ 16) :
    Calls Tryz.prog 140 #[.int .i64 (c : Int), .pointer (some ⟨F, 0, none⟩), .pointer (some ⟨X, 0, none⟩)] w fun e w' => e = .returned (.int .i64 (bel l x y c : Int)) ∧ Below w.heap.size w w' := by
  have HL : Hid (Calls Tryz.prog 119 _ w _) := below_yes hs c x y hc hxy hy
  have hb := bel_le l x y c
  have hn := hs.hn
  have hc2 : c < 65536 := hc
  clear hs
  go_enter Tryz.func140, Tryz.ntmps140
  go_wp2_with fail
  refine (Calls.mono HL.out ?_)
  rintro e w1 ⟨rfl, hB1⟩
  have HB1 : Hid _ := hB1
  clear hB1
  go_wp2
  go_ret
  exact ⟨rfl, HB1.out⟩
set_option maxHeartbeats 4000000 in
theorem ends_span {w : World} {b g : Nat} {l : List Nat} (hs : SeqAt 16 w b g l) (x y : Nat) (hxy : x ≤ y) (hy : y ≤ l.length) (F X : Nat) (hF : w.cell? ⟨F, 0, none⟩ = some (belowV b)) (hX0 : w.cell? ⟨X, 0, none⟩ = some (.int .i64 (x : Int))) (hX1 : w.cell? ⟨X, 1, none⟩ = some (.int .i64 (y : Int))) (a d : Nat) (ha : a < 2 ^ 16) (hd : d < 2 ^ 16) :
    Calls Tryz.prog 95 #[.agg #[.int .i64 (a : Int), .int .i64 (d : Int)], .func (.func 140) #[] #[.pointer (some ⟨F, 0, none⟩), .pointer (some ⟨X, 0, none⟩)]] w fun e w' => e = .returned (.agg #[.int .i64 (bel l x y a : Int), .int .i64 (bel l x y d : Int)]) ∧ Below w.heap.size w w' := by
  have hB := G.below2 w (.cells #[.int .i64 (a : Int), .int .i64 (d : Int)] 133) (.cells #[.int .i64 0, .int .i64 0] 133)
  have HB : Hid _ := hB
  have HS : Hid _ := hs.below hB
  have HF : Hid _ := cell_kept hB _ _ hF
  have HX0 : Hid _ := cell_kept hB _ _ hX0
  have HX1 : Hid _ := cell_kept hB _ _ hX1
  obtain ⟨k0, k1, k2, k3, m0, m1⟩ := G.two_spans w (.int .i64 (a : Int)) (.int .i64 (d : Int)) (.int .i64 0) (.int .i64 0) 133
  have HA : Hid (∀ W, Below ((w.alloc (.cells #[.int .i64 (a : Int), .int .i64 (d : Int)] 133)).alloc (.cells #[.int .i64 0, .int .i64 0] 133)).heap.size ((w.alloc (.cells #[.int .i64 (a : Int), .int .i64 (d : Int)] 133)).alloc (.cells #[.int .i64 0, .int .i64 0] 133)) W → Calls Tryz.prog 140 #[.int .i64 (a : Int), .pointer (some ⟨F, 0, none⟩), .pointer (some ⟨X, 0, none⟩)] W _) := fun W h => spansort1_any (HS.out.below h) x y hxy hy F X (cell_kept h _ _ HF.out) (cell_kept h _ _ HX0.out) (cell_kept h _ _ HX1.out) a ha
  have HD : Hid (∀ W, Below ((w.alloc (.cells #[.int .i64 (a : Int), .int .i64 (d : Int)] 133)).alloc (.cells #[.int .i64 0, .int .i64 0] 133)).heap.size ((w.alloc (.cells #[.int .i64 (a : Int), .int .i64 (d : Int)] 133)).alloc (.cells #[.int .i64 0, .int .i64 0] 133)) W → Calls Tryz.prog 140 #[.int .i64 (d : Int), .pointer (some ⟨F, 0, none⟩), .pointer (some ⟨X, 0, none⟩)] W _) := fun W h => spansort1_any (HS.out.below h) x y hxy hy F X (cell_kept h _ _ HF.out) (cell_kept h _ _ HX0.out) (cell_kept h _ _ HX1.out) d hd
  clear hs hB hF hX0 hX1
  go_enter Tryz.func95, Tryz.ntmps95
  go_wp2_with fail
  go_region_held3 (fun w' => w'.cell? ⟨w.heap.size, 0, none⟩ = some (.int .i64 (a : Int)) ∧ w'.cell? ⟨w.heap.size, 1, none⟩ = some (.int .i64 (d : Int))) (go_keep)
    (first
      | (go_at_call_of 140 (Value.int IntKind.i64 (a : Int)); refine (HA.out _ ?_).mono ?_; (first | exact (Below.refl _ _).drew | exact hBd | exact hBd.drew); rintro r wa ⟨rfl, hB0a⟩; have hBa : Below ((w.alloc (.cells #[.int .i64 (a : Int), .int .i64 (d : Int)] 133)).alloc (.cells #[.int .i64 0, .int .i64 0] 133)).heap.size ((w.alloc (.cells #[.int .i64 (a : Int), .int .i64 (d : Int)] 133)).alloc (.cells #[.int .i64 0, .int .i64 0] 133)) wa := (by first | exact (((Below.refl _ _).drew).trans hB0a) | exact chain hBd hB0a | exact chain hBd (((Below.refl _ _).drew).trans hB0a)); have q1a := cell_kept hBa _ _ k0; have q2a := cell_kept hBa _ _ k1; have q3a := cell_kept hBa _ _ k2; have q4a := cell_kept hBa _ _ k3; have q5a := (hBa.frozen (p := ⟨w.heap.size + 1, 0, none⟩) (by simp)).trans m0; have q6a := (hBa.frozen (p := ⟨w.heap.size + 1, 1, none⟩) (by simp)).trans m1; have q7a := hBa.size)
      | (go_at_call_of 140 (Value.int IntKind.i64 (d : Int)); refine (HD.out _ ?_).mono ?_; (first | exact (Below.refl _ _).drew | exact hBa | exact hBa.drew); rintro r wd ⟨rfl, hB0d⟩; have hBd : Below ((w.alloc (.cells #[.int .i64 (a : Int), .int .i64 (d : Int)] 133)).alloc (.cells #[.int .i64 0, .int .i64 0] 133)).heap.size ((w.alloc (.cells #[.int .i64 (a : Int), .int .i64 (d : Int)] 133)).alloc (.cells #[.int .i64 0, .int .i64 0] 133)) wd := (by first | exact (((Below.refl _ _).drew).trans hB0d) | exact chain hBa hB0d | exact chain hBa (((Below.refl _ _).drew).trans hB0d)); have q1d := cell_kept hBd _ _ k0; have q2d := cell_kept hBd _ _ k1; have q3d := cell_kept hBd _ _ k2; have q4d := cell_kept hBd _ _ k3; have q5d := (hBd.frozen (p := ⟨w.heap.size + 1, 0, none⟩) (by simp)).trans m0; have q6d := (hBd.frozen (p := ⟨w.heap.size + 1, 1, none⟩) (by simp)).trans m1; have q7d := hBd.size))
  all_goals
    go_wp2
    refine bodyPost_ret (v := .agg #[.int .i64 (bel l x y a : Int), .int .i64 (bel l x y d : Int)]) (by simp [results, Tryz.results95, go_sem, *]) rfl ?_
    first
      | exact ⟨rfl, ((chain HB.out hBd).setCell (p := ⟨w.heap.size + 1, 0, none⟩) (Nat.le_succ _) _).setCell (p := ⟨w.heap.size + 1, 1, none⟩) (Nat.le_succ _) _⟩
      | exact ⟨rfl, ((chain HB.out hBa).setCell (p := ⟨w.heap.size + 1, 0, none⟩) (Nat.le_succ _) _).setCell (p := ⟨w.heap.size + 1, 1, none⟩) (Nat.le_succ _) _⟩
set_option maxHeartbeats 2000000 in
theorem spansort_any {w : World} {b g : Nat} {l : List Nat} (hs : SeqAt 16 w b g l) (x y : Nat) (hxy : x ≤ y) (hy : y ≤ l.length) (a d : Nat) (ha : a < 2 ^ 16) (hd : d < 2 ^ 16) :
    Calls Tryz.prog 118 #[belowV b, .agg #[.int .i64 (x : Int), .int .i64 (y : Int)], .agg #[.int .i64 (a : Int), .int .i64 (d : Int)]] w fun e w' => e = .returned (.agg #[.int .i64 (bel l x y a : Int), .int .i64 (bel l x y d : Int)]) ∧ Below w.heap.size w w' := by
  have hb1 := G.below1 w (.cells #[belowV b] 202)
  have hb2 := hb1.alloc hb1.size (.cells #[.int .i64 (x : Int), .int .i64 (y : Int)] 133)
  have hb3 := hb2.alloc hb2.size (.cells #[.int .i64 (a : Int), .int .i64 (d : Int)] 133)
  have hb4 := hb3.alloc hb3.size (.cells #[.int .i64 0, .int .i64 0] 133)
  generalize hw4 : (((w.alloc (.cells #[belowV b] 202)).alloc (.cells #[.int .i64 (x : Int), .int .i64 (y : Int)] 133)).alloc (.cells #[.int .i64 (a : Int), .int .i64 (d : Int)] 133)).alloc (.cells #[.int .i64 0, .int .i64 0] 133) = w4 at hb4
  have e0 : w4.heap[w.heap.size]? = some (.cells #[belowV b] 202 (0, 0)) := by
    rw [← hw4, G.old_alloc (by simp <;> omega), G.old_alloc (by simp <;> omega), G.old_alloc (by simp)]; exact heap_alloc_new _ _
  have e1 : w4.heap[w.heap.size + 1]? = some (.cells #[.int .i64 (x : Int), .int .i64 (y : Int)] 133 (0, 0)) := by
    rw [← hw4, G.old_alloc (by simp <;> omega), G.old_alloc (by simp)]
    have := heap_alloc_new (w.alloc (.cells #[belowV b] 202)) (.cells #[.int .i64 (x : Int), .int .i64 (y : Int)] 133)
    rwa [World.size_alloc] at this
  have e3 : w4.heap[w.heap.size + 3]? = some (.cells #[.int .i64 0, .int .i64 0] 133 (0, 0)) := by
    rw [← hw4]
    have := heap_alloc_new (((w.alloc (.cells #[belowV b] 202)).alloc (.cells #[.int .i64 (x : Int), .int .i64 (y : Int)] 133)).alloc (.cells #[.int .i64 (a : Int), .int .i64 (d : Int)] 133)) (.cells #[.int .i64 0, .int .i64 0] 133)
    rwa [World.size_alloc, World.size_alloc, World.size_alloc] at this
  have f0 : w4.cell? ⟨w.heap.size, 0, none⟩ = some (belowV b) := by rw [cell_of_row _ _ 0 _ _ _ e0]; rfl
  have f1 : w4.cell? ⟨w.heap.size + 1, 0, none⟩ = some (.int .i64 (x : Int)) := by rw [cell_of_row _ _ 0 _ _ _ e1]; rfl
  have f2 : w4.cell? ⟨w.heap.size + 1, 1, none⟩ = some (.int .i64 (y : Int)) := by rw [cell_of_row _ _ 1 _ _ _ e1]; rfl
  have HE : Hid (Calls Tryz.prog 95 _ w4 _) := ends_span (hs.below hb4) x y hxy hy w.heap.size (w.heap.size + 1) f0 f1 f2 a d ha hd
  rw [← hw4] at HE
  have HB4 : Hid _ := hb4
  have HE3 : Hid _ := e3
  have HW4 : Hid _ := hw4
  clear hs hb1 hb2 hb3 hb4 e0 e1 e3 f0 f1 f2 hw4
  go_enter Tryz.func118, Tryz.ntmps118
  go_wp2_with fail
  refine (Calls.mono HE.out ?_)
  rw [HW4.out]
  rintro e w5 ⟨rfl, hB5⟩
  have h3 := (hB5.block _ (Array.getElem?_eq_some_iff.1 HE3.out).1).trans HE3.out
  have y0 : w5.cell? ⟨w.heap.size + 3, 0, none⟩ = some (.int .i64 0) := by rw [cell_of_row w5 _ 0 _ _ _ h3]; rfl
  have y1 : w5.cell? ⟨w.heap.size + 3, 1, none⟩ = some (.int .i64 0) := by rw [cell_of_row w5 _ 1 _ _ _ h3]; rfl
  have z0 := frozen_of_row w5 _ 0 _ _ h3
  have z1 := frozen_of_row w5 _ 1 _ _ h3
  have hs5 := (Array.getElem?_eq_some_iff.1 h3).1
  have HB5 : Hid _ := chain HB4.out hB5
  clear hB5 h3
  go_wp2
  refine bodyPost_ret (v := .agg #[.int .i64 (bel l x y a : Int), .int .i64 (bel l x y d : Int)]) (by simp [results, Tryz.results118, go_sem, *]) rfl ?_
  exact ⟨rfl, (HB5.out.setCell (p := ⟨w.heap.size + 3, 0, none⟩) (Nat.le_add_right _ _) _).setCell (p := ⟨w.heap.size + 3, 1, none⟩) (Nat.le_add_right _ _) _⟩
end Go.Proofs.YtphjbbbnbmafnabGreatDoor.S16
