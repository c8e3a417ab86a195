/-
  Where the numbers of a sequence of 8 bits would be, if they were in order: whole, sortedSpan, placeOf: what they answer; nothing that was there is written.
  The edges to a span of nodes: placesTo, edgesOf by it, In: what they answer; new lists; nothing that was there is written.
  The program's edgesOf by placesTo; Only, Out and In: the edges, a new list, or ErrRange; nothing that was there is written.
  Where the targets of those edges of a span of places lie that have one label (Graph.targetsOf): new memory; nothing that was there is written.
-/
import Derived.Test.YtphjbbbnbmafnabGreatDoorNums
import Derived.Test.YtphjbbbnbmafnabGreatDoorPEo
import Derived.Test.YtphjbbbnbmafnabGreatDoorPSp16
import Derived.Deep.DeepCutAuto
namespace Go.Proofs.YtphjbbbnbmafnabGreatDoor.S8
open Go.RowKit Go.Proofs.YtphjbbbnbmafnabGreatDoor

attribute [local go_sem ↓] Go.wp_at_zero Go.wp_at_succ
set_option maxHeartbeats 1000000 in
theorem whole_any {w : World} {b g : Nat} {l : List Nat} (hs : SeqAt 8 w b g l) :
    Calls Tryz.prog 135 #[.pointer (some ⟨b, 0, none⟩)] w fun e w' => e = .returned (.agg #[.int .i64 0, .int .i64 (l.length : Int)]) ∧ Below w.heap.size w w' := by
  have hB := G.below1 w (.cells #[.int .i64 0, .int .i64 0] 133)
  have HL : Hid (Calls Tryz.prog 150 _ (w.alloc (.cells #[.int .i64 0, .int .i64 0] 133)) _) := len_any (hs.below hB)
  clear hs hB
  go_enter Tryz.func135, Tryz.ntmps135
  go_wp2_with fail
  refine (Calls.mono HL.out ?_)
  rintro e w1 ⟨rfl, hw⟩
  rw [hw]
  clear hw w1
  go_wp2
  refine bodyPost_ret (v := .agg #[.int .i64 0, .int .i64 (l.length : Int)]) (by simp [results, Tryz.results135, go_sem]) rfl ?_
  exact ⟨rfl, G.below1 _ _⟩
/-- the value of the method Below of a sequence -/
abbrev belowV (b : Nat) : Value := .func (.func 134) #[.pointer (some ⟨b, 0, none⟩)] #[]
set_option maxHeartbeats 1000000 in
theorem spansort1_any {w : World} {b g : Nat} {l : List Nat} (hs : SeqAt 8 w b g l) (x y : Nat) (hxy : x ≤ y) (hy : y ≤ l.length) (F X : Nat) (hF : w.cell? ⟨F, 0, none⟩ = some (belowV b)) (hX0 : w.cell? ⟨X, 0, none⟩ = some (.int .i64 (x : Int))) (hX1 : w.cell? ⟨X, 1, none⟩ = some (.int .i64 (y : Int))) (c : Nat) (hc : c < 2 ^ 8) :
    Calls Tryz.prog 153 #[.int .i64 (c : Int), .pointer (some ⟨F, 0, none⟩), .pointer (some ⟨X, 0, none⟩)] w fun e w' => e = .returned (.int .i64 (bel l x y c : Int)) ∧ Below w.heap.size w w' := by
  have HL : Hid (Calls Tryz.prog 134 _ w _) := below_yes hs c x y hc hxy hy
  have hb := bel_le l x y c
  have hn := hs.hn
  have hc2 : c < 256 := hc
  clear hs
  go_enter Tryz.func153, Tryz.ntmps153
  go_wp2_with fail
  refine (Calls.mono HL.out ?_)
  rintro e w1 ⟨rfl, hB1⟩
  have HB1 : Hid _ := hB1
  clear hB1
  go_wp2
  go_ret
  exact ⟨rfl, HB1.out⟩
set_option maxHeartbeats 4000000 in
theorem ends_span {w : World} {b g : Nat} {l : List Nat} (hs : SeqAt 8 w b g l) (x y : Nat) (hxy : x ≤ y) (hy : y ≤ l.length) (F X : Nat) (hF : w.cell? ⟨F, 0, none⟩ = some (belowV b)) (hX0 : w.cell? ⟨X, 0, none⟩ = some (.int .i64 (x : Int))) (hX1 : w.cell? ⟨X, 1, none⟩ = some (.int .i64 (y : Int))) (a d : Nat) (ha : a < 2 ^ 8) (hd : d < 2 ^ 8) :
    Calls Tryz.prog 95 #[.agg #[.int .i64 (a : Int), .int .i64 (d : Int)], .func (.func 153) #[] #[.pointer (some ⟨F, 0, none⟩), .pointer (some ⟨X, 0, none⟩)]] w fun e w' => e = .returned (.agg #[.int .i64 (bel l x y a : Int), .int .i64 (bel l x y d : Int)]) ∧ Below w.heap.size w w' := by
  have hB := G.below2 w (.cells #[.int .i64 (a : Int), .int .i64 (d : Int)] 133) (.cells #[.int .i64 0, .int .i64 0] 133)
  have HB : Hid _ := hB
  have HS : Hid _ := hs.below hB
  have HF : Hid _ := cell_kept hB _ _ hF
  have HX0 : Hid _ := cell_kept hB _ _ hX0
  have HX1 : Hid _ := cell_kept hB _ _ hX1
  obtain ⟨k0, k1, k2, k3, m0, m1⟩ := G.two_spans w (.int .i64 (a : Int)) (.int .i64 (d : Int)) (.int .i64 0) (.int .i64 0) 133
  have HA : Hid (∀ W, Below ((w.alloc (.cells #[.int .i64 (a : Int), .int .i64 (d : Int)] 133)).alloc (.cells #[.int .i64 0, .int .i64 0] 133)).heap.size ((w.alloc (.cells #[.int .i64 (a : Int), .int .i64 (d : Int)] 133)).alloc (.cells #[.int .i64 0, .int .i64 0] 133)) W → Calls Tryz.prog 153 #[.int .i64 (a : Int), .pointer (some ⟨F, 0, none⟩), .pointer (some ⟨X, 0, none⟩)] W _) := fun W h => spansort1_any (HS.out.below h) x y hxy hy F X (cell_kept h _ _ HF.out) (cell_kept h _ _ HX0.out) (cell_kept h _ _ HX1.out) a ha
  have HD : Hid (∀ W, Below ((w.alloc (.cells #[.int .i64 (a : Int), .int .i64 (d : Int)] 133)).alloc (.cells #[.int .i64 0, .int .i64 0] 133)).heap.size ((w.alloc (.cells #[.int .i64 (a : Int), .int .i64 (d : Int)] 133)).alloc (.cells #[.int .i64 0, .int .i64 0] 133)) W → Calls Tryz.prog 153 #[.int .i64 (d : Int), .pointer (some ⟨F, 0, none⟩), .pointer (some ⟨X, 0, none⟩)] W _) := fun W h => spansort1_any (HS.out.below h) x y hxy hy F X (cell_kept h _ _ HF.out) (cell_kept h _ _ HX0.out) (cell_kept h _ _ HX1.out) d hd
  clear hs hB hF hX0 hX1
  go_enter Tryz.func95, Tryz.ntmps95
  go_wp2_with fail
  go_region_held3 (fun w' => w'.cell? ⟨w.heap.size, 0, none⟩ = some (.int .i64 (a : Int)) ∧ w'.cell? ⟨w.heap.size, 1, none⟩ = some (.int .i64 (d : Int))) (go_keep)
    (first
      | (go_at_call_of 153 (Value.int IntKind.i64 (a : Int)); refine (HA.out _ ?_).mono ?_; (first | exact (Below.refl _ _).drew | exact hBd | exact hBd.drew); rintro r wa ⟨rfl, hB0a⟩; have hBa : Below ((w.alloc (.cells #[.int .i64 (a : Int), .int .i64 (d : Int)] 133)).alloc (.cells #[.int .i64 0, .int .i64 0] 133)).heap.size ((w.alloc (.cells #[.int .i64 (a : Int), .int .i64 (d : Int)] 133)).alloc (.cells #[.int .i64 0, .int .i64 0] 133)) wa := (by first | exact (((Below.refl _ _).drew).trans hB0a) | exact chain hBd hB0a | exact chain hBd (((Below.refl _ _).drew).trans hB0a)); have q1a := cell_kept hBa _ _ k0; have q2a := cell_kept hBa _ _ k1; have q3a := cell_kept hBa _ _ k2; have q4a := cell_kept hBa _ _ k3; have q5a := (hBa.frozen (p := ⟨w.heap.size + 1, 0, none⟩) (by simp)).trans m0; have q6a := (hBa.frozen (p := ⟨w.heap.size + 1, 1, none⟩) (by simp)).trans m1; have q7a := hBa.size)
      | (go_at_call_of 153 (Value.int IntKind.i64 (d : Int)); refine (HD.out _ ?_).mono ?_; (first | exact (Below.refl _ _).drew | exact hBa | exact hBa.drew); rintro r wd ⟨rfl, hB0d⟩; have hBd : Below ((w.alloc (.cells #[.int .i64 (a : Int), .int .i64 (d : Int)] 133)).alloc (.cells #[.int .i64 0, .int .i64 0] 133)).heap.size ((w.alloc (.cells #[.int .i64 (a : Int), .int .i64 (d : Int)] 133)).alloc (.cells #[.int .i64 0, .int .i64 0] 133)) wd := (by first | exact (((Below.refl _ _).drew).trans hB0d) | exact chain hBa hB0d | exact chain hBa (((Below.refl _ _).drew).trans hB0d)); have q1d := cell_kept hBd _ _ k0; have q2d := cell_kept hBd _ _ k1; have q3d := cell_kept hBd _ _ k2; have q4d := cell_kept hBd _ _ k3; have q5d := (hBd.frozen (p := ⟨w.heap.size + 1, 0, none⟩) (by simp)).trans m0; have q6d := (hBd.frozen (p := ⟨w.heap.size + 1, 1, none⟩) (by simp)).trans m1; have q7d := hBd.size))
  all_goals
    go_wp2
    refine bodyPost_ret (v := .agg #[.int .i64 (bel l x y a : Int), .int .i64 (bel l x y d : Int)]) (by simp [results, Tryz.results95, go_sem, *]) rfl ?_
    first
      | exact ⟨rfl, ((chain HB.out hBd).setCell (p := ⟨w.heap.size + 1, 0, none⟩) (Nat.le_succ _) _).setCell (p := ⟨w.heap.size + 1, 1, none⟩) (Nat.le_succ _) _⟩
      | exact ⟨rfl, ((chain HB.out hBa).setCell (p := ⟨w.heap.size + 1, 0, none⟩) (Nat.le_succ _) _).setCell (p := ⟨w.heap.size + 1, 1, none⟩) (Nat.le_succ _) _⟩
set_option maxHeartbeats 2000000 in
theorem spansort_any {w : World} {b g : Nat} {l : List Nat} (hs : SeqAt 8 w b g l) (x y : Nat) (hxy : x ≤ y) (hy : y ≤ l.length) (a d : Nat) (ha : a < 2 ^ 8) (hd : d < 2 ^ 8) :
    Calls Tryz.prog 138 #[belowV b, .agg #[.int .i64 (x : Int), .int .i64 (y : Int)], .agg #[.int .i64 (a : Int), .int .i64 (d : Int)]] w fun e w' => e = .returned (.agg #[.int .i64 (bel l x y a : Int), .int .i64 (bel l x y d : Int)]) ∧ Below w.heap.size w w' := by
  have hb1 := G.below1 w (.cells #[belowV b] 213)
  have hb2 := hb1.alloc hb1.size (.cells #[.int .i64 (x : Int), .int .i64 (y : Int)] 133)
  have hb3 := hb2.alloc hb2.size (.cells #[.int .i64 (a : Int), .int .i64 (d : Int)] 133)
  have hb4 := hb3.alloc hb3.size (.cells #[.int .i64 0, .int .i64 0] 133)
  generalize hw4 : (((w.alloc (.cells #[belowV b] 213)).alloc (.cells #[.int .i64 (x : Int), .int .i64 (y : Int)] 133)).alloc (.cells #[.int .i64 (a : Int), .int .i64 (d : Int)] 133)).alloc (.cells #[.int .i64 0, .int .i64 0] 133) = w4 at hb4
  have e0 : w4.heap[w.heap.size]? = some (.cells #[belowV b] 213 (0, 0)) := by
    rw [← hw4, G.old_alloc (by simp <;> omega), G.old_alloc (by simp <;> omega), G.old_alloc (by simp)]; exact heap_alloc_new _ _
  have e1 : w4.heap[w.heap.size + 1]? = some (.cells #[.int .i64 (x : Int), .int .i64 (y : Int)] 133 (0, 0)) := by
    rw [← hw4, G.old_alloc (by simp <;> omega), G.old_alloc (by simp)]
    have := heap_alloc_new (w.alloc (.cells #[belowV b] 213)) (.cells #[.int .i64 (x : Int), .int .i64 (y : Int)] 133)
    rwa [World.size_alloc] at this
  have e3 : w4.heap[w.heap.size + 3]? = some (.cells #[.int .i64 0, .int .i64 0] 133 (0, 0)) := by
    rw [← hw4]
    have := heap_alloc_new (((w.alloc (.cells #[belowV b] 213)).alloc (.cells #[.int .i64 (x : Int), .int .i64 (y : Int)] 133)).alloc (.cells #[.int .i64 (a : Int), .int .i64 (d : Int)] 133)) (.cells #[.int .i64 0, .int .i64 0] 133)
    rwa [World.size_alloc, World.size_alloc, World.size_alloc] at this
  have f0 : w4.cell? ⟨w.heap.size, 0, none⟩ = some (belowV b) := by rw [cell_of_row _ _ 0 _ _ _ e0]; rfl
  have f1 : w4.cell? ⟨w.heap.size + 1, 0, none⟩ = some (.int .i64 (x : Int)) := by rw [cell_of_row _ _ 0 _ _ _ e1]; rfl
  have f2 : w4.cell? ⟨w.heap.size + 1, 1, none⟩ = some (.int .i64 (y : Int)) := by rw [cell_of_row _ _ 1 _ _ _ e1]; rfl
  have HE : Hid (Calls Tryz.prog 95 _ w4 _) := ends_span (hs.below hb4) x y hxy hy w.heap.size (w.heap.size + 1) f0 f1 f2 a d ha hd
  rw [← hw4] at HE
  have HB4 : Hid _ := hb4
  have HE3 : Hid _ := e3
  have HW4 : Hid _ := hw4
  clear hs hb1 hb2 hb3 hb4 e0 e1 e3 f0 f1 f2 hw4
  go_enter Tryz.func138, Tryz.ntmps138
  go_wp2_with fail
  refine (Calls.mono HE.out ?_)
  rw [HW4.out]
  rintro e w5 ⟨rfl, hB5⟩
  have h3 := (hB5.block _ (Array.getElem?_eq_some_iff.1 HE3.out).1).trans HE3.out
  have y0 : w5.cell? ⟨w.heap.size + 3, 0, none⟩ = some (.int .i64 0) := by rw [cell_of_row w5 _ 0 _ _ _ h3]; rfl
  have y1 : w5.cell? ⟨w.heap.size + 3, 1, none⟩ = some (.int .i64 0) := by rw [cell_of_row w5 _ 1 _ _ _ h3]; rfl
  have z0 := frozen_of_row w5 _ 0 _ _ h3
  have z1 := frozen_of_row w5 _ 1 _ _ h3
  have hs5 := (Array.getElem?_eq_some_iff.1 h3).1
  have HB5 : Hid _ := chain HB4.out hB5
  clear hB5 h3
  go_wp2
  refine bodyPost_ret (v := .agg #[.int .i64 (bel l x y a : Int), .int .i64 (bel l x y d : Int)]) (by simp [results, Tryz.results138, go_sem, *]) rfl ?_
  exact ⟨rfl, (HB5.out.setCell (p := ⟨w.heap.size + 3, 0, none⟩) (Nat.le_add_right _ _) _).setCell (p := ⟨w.heap.size + 3, 1, none⟩) (Nat.le_add_right _ _) _⟩
end Go.Proofs.YtphjbbbnbmafnabGreatDoor.S8

namespace Go.Proofs.YtphjbbbnbmafnabGreatDoor.G
open Go.RowKit

attribute [local go_sem ↓] Go.wp_at_zero Go.wp_at_succ
theorem set2_other {W : World} {N B o : Nat} {u v z : Value} (hne : B ≠ N) (h : W.cell? ⟨B, o, none⟩ = some z) : ((W.setCell ⟨N, 0, none⟩ u).setCell ⟨N, 1, none⟩ v).cell? ⟨B, o, none⟩ = some z := by
  rw [World.cell?_setCell_other _ ⟨N, 1, none⟩ ⟨B, o, none⟩ v (fun e => hne (congrArg Addr.block e).symm), World.cell?_setCell_other _ ⟨N, 0, none⟩ ⟨B, o, none⟩ u (fun e => hne (congrArg Addr.block e).symm)]
  exact h
/-- a span that was just made -/
theorem new_span (W : World) (N : Nat) (hN : W.heap.size = N) : (W.alloc (.cells #[.int .i64 0, .int .i64 0] 133)).cell? ⟨N, 0, none⟩ = some (.int .i64 0) ∧ (W.alloc (.cells #[.int .i64 0, .int .i64 0] 133)).cell? ⟨N, 1, none⟩ = some (.int .i64 0) ∧ (W.alloc (.cells #[.int .i64 0, .int .i64 0] 133)).frozen? ⟨N, 0, none⟩ = false ∧ (W.alloc (.cells #[.int .i64 0, .int .i64 0] 133)).frozen? ⟨N, 1, none⟩ = false ∧ N < (W.alloc (.cells #[.int .i64 0, .int .i64 0] 133)).heap.size := by
  subst hN
  have h := heap_alloc_new W (.cells #[.int .i64 0, .int .i64 0] 133)
  exact ⟨by rw [cell_of_row _ _ 0 _ _ _ h]; rfl, by rw [cell_of_row _ _ 1 _ _ _ h]; rfl, frozen_of_row _ _ 0 _ _ h, frozen_of_row _ _ 1 _ _ h, by simp⟩
/-- a span's cells as they lie, and may be written -/
def SpanAt (W : World) (N : Nat) : Prop := W.cell? ⟨N, 0, none⟩ = some (.int .i64 0) ∧ W.cell? ⟨N, 1, none⟩ = some (.int .i64 0) ∧ W.frozen? ⟨N, 0, none⟩ = false ∧ W.frozen? ⟨N, 1, none⟩ = false ∧ N < W.heap.size
theorem SpanAt.below {W W' : World} {N : Nat} (h : SpanAt W N) (hB : Below W.heap.size W W') : SpanAt W' N :=
  ⟨cell_kept hB _ _ h.1, cell_kept hB _ _ h.2.1, (hB.frozen (p := ⟨N, 0, none⟩) h.2.2.2.2).trans h.2.2.1, (hB.frozen (p := ⟨N, 1, none⟩) h.2.2.2.2).trans h.2.2.2.1, Nat.lt_of_lt_of_le h.2.2.2.2 hB.size⟩
theorem spanAt_new (W : World) (N : Nat) (hN : W.heap.size = N) : SpanAt (W.alloc (.cells #[.int .i64 0, .int .i64 0] 133)) N := new_span W N hN
theorem spanAt_drew {W : World} {N : Nat} (h : SpanAt W N) : SpanAt W.drew N := h
theorem set2_0 {W : World} {N : Nat} {u v : Value} (h : SpanAt W N) : ((W.setCell ⟨N, 0, none⟩ u).setCell ⟨N, 1, none⟩ v).cell? ⟨N, 0, none⟩ = some u := by
  rw [World.cell?_setCell_other _ ⟨N, 1, none⟩ ⟨N, 0, none⟩ v (fun e => by simp at e)]
  exact World.cell?_setCell_same _ _ _ h.1
theorem set2_1 {W : World} {N : Nat} {u v : Value} (h : SpanAt W N) : ((W.setCell ⟨N, 0, none⟩ u).setCell ⟨N, 1, none⟩ v).cell? ⟨N, 1, none⟩ = some v := by
  refine World.cell?_setCell_same _ _ _ (u := .int .i64 0) ?_
  rw [World.cell?_setCell_other _ ⟨N, 0, none⟩ ⟨N, 1, none⟩ u (fun e => by simp at e)]
  exact h.2.1
end Go.Proofs.YtphjbbbnbmafnabGreatDoor.G

namespace Go.Proofs.YtphjbbbnbmafnabGreatDoor.G
open Go.RowKit

attribute [local go_sem ↓] Go.wp_at_zero Go.wp_at_succ
/-- is an edge to a node of a span? -/
def toB (x y : Int) (e : E3) : Bool := decide (x ≤ e.2.2 ∧ e.2.2 < y)
set_option maxHeartbeats 1000000 in
theorem only_any (u : Int) (w : World) : Calls Tryz.prog 61 #[.int .i64 u] w fun e w' => e = .returned (.agg #[.int .i64 u, .int .i64 (wrap64 (u + 1))]) ∧ Below w.heap.size w w' := by
  go_enter Tryz.func61, Tryz.ntmps61
  go_wp2
  refine bodyPost_ret (v := .agg #[.int .i64 u, .int .i64 (wrap64 (u + 1))]) (by simp [results, Tryz.results61, go_sem]) rfl ?_
  exact ⟨rfl, below1 _ _⟩
/-- a number is one of n just if the span of it alone is one of n -/
theorem only_span (u : Int) (n : Nat) (hn : n ≤ 10000) (h1 : -9223372036854775808 ≤ u) (h2 : u ≤ 9223372036854775807) : (0 ≤ u ∧ u ≤ wrap64 (u + 1) ∧ wrap64 (u + 1) ≤ (n : Int)) ↔ (0 ≤ u ∧ u < (n : Int)) := by
  unfold wrap64
  omega
set_option maxHeartbeats 2000000 in
theorem gout_any {w : World} {b n s : Nat} {L : List E3} (h : GraphAt w b n s L) (u : Int) (h1 : -9223372036854775808 ≤ u) (h2 : u ≤ 9223372036854775807) :
    Calls Tryz.prog 27 #[.pointer (some ⟨b, 0, none⟩), .int .i64 u] w fun e w' => (¬ (0 ≤ u ∧ u < (n : Int)) ∧ e = .returned (.tuple #[.slice none 0 0, .int .i64 1]) ∧ Below w.heap.size w w') ∨ ((0 ≤ u ∧ u < (n : Int)) ∧ ∃ v, e = .returned (.tuple #[v, .int .i64 0]) ∧ OwnE w w' v (L.filter (fromB u (u + 1)))) := by
  have hbd := h.bd
  have hsp := only_span u n hbd.2.1 h1 h2
  have HO : Hid (Calls Tryz.prog 61 _ w _) := only_any u w
  by_cases hu : 0 ≤ u ∧ u < (n : Int)
  · have e : wrap64 (u + 1) = u + 1 := by
      unfold wrap64
      omega
    rw [e] at HO
    obtain ⟨m, rfl⟩ : ∃ m : Nat, u = (m : Int) := ⟨u.toNat, by omega⟩
    have HE : Hid (∀ W, Below w.heap.size w W → Calls Tryz.prog 60 #[.pointer (some ⟨b, 0, none⟩), .agg #[.int .i64 (m : Int), .int .i64 ((m : Int) + 1)], .func (.func 62) #[] #[]] W fun e w' => ∃ v, e = .returned (.tuple #[v, .int .i64 0]) ∧ OwnE W w' v (L.filter (fromB (m : Int) ((m : Int) + 1)))) := (fun W hW => edgesof_from (h.below hW) m (m + 1) ⟨by omega, by omega⟩ : ∀ W, _)
    have HU : Hid _ := hu
    clear h hu hsp e h1 h2
    go_enter Tryz.func27, Tryz.ntmps27
    go_wp2_with fail
    refine (Calls.mono HO.out ?_)
    rintro e w1 ⟨rfl, hB1⟩
    have HB1 : Hid _ := hB1
    clear hB1
    go_wp2_with fail
    refine (Calls.mono (HE.out w1 HB1.out) ?_)
    rintro e w2 ⟨v, rfl, hO⟩
    have HO2 : Hid (OwnE w w2 v (L.filter (fromB (m : Int) ((m : Int) + 1)))) := (⟨own_base hO.1 HB1.out.size, chain HB1.out hO.2⟩ : OwnE _ _ _ _)
    clear hO
    go_wp2
    go_ret2
    exact .inr ⟨HU.out, v, rfl, HO2.out⟩
  · have HE : Hid (∀ W, Below w.heap.size w W → Calls Tryz.prog 60 #[.pointer (some ⟨b, 0, none⟩), .agg #[.int .i64 u, .int .i64 (wrap64 (u + 1))], .func (.func 62) #[] #[]] W _) := (fun W hW => edgesof_no (h.below hW) u (wrap64 (u + 1)) (fun h => hu (hsp.1 h)) _ : ∀ W, _)
    have HU : Hid _ := hu
    clear h hu hsp h1 h2
    generalize wrap64 (u + 1) = z at HO HE
    go_enter Tryz.func27, Tryz.ntmps27
    go_wp2_with fail
    refine (Calls.mono HO.out ?_)
    rintro e w1 ⟨rfl, hB1⟩
    have HB1 : Hid _ := hB1
    clear hB1
    go_wp2_with fail
    refine (Calls.mono (HE.out w1 HB1.out) ?_)
    rintro e w2 ⟨rfl, hB2⟩
    have HB2 : Hid _ := chain HB1.out hB2
    clear hB2
    go_wp2
    go_ret2
    exact .inl ⟨HU.out, rfl, HB2.out⟩
end Go.Proofs.YtphjbbbnbmafnabGreatDoor.G

namespace Go.Proofs.YtphjbbbnbmafnabGreatDoor.G
open Go.RowKit

attribute [local go_sem ↓] Go.wp_at_zero Go.wp_at_succ
theorem only2_any (u : Nat) (hu : u ≤ 1000000) (w : World) : Calls Tryz.prog 61 #[.int .i64 (u : Int)] w fun e w' => e = .returned (.agg #[.int .i64 (u : Int), .int .i64 ((u + 1 : Nat) : Int)]) ∧ Below w.heap.size w w' := by
  have h := only_any (u : Int) w
  rw [show wrap64 ((u : Int) + 1) = ((u + 1 : Nat) : Int) from by unfold wrap64; omega] at h
  exact h
theorem bel_al {a W : World} {o : Obj} (h : Below a.heap.size a W) : Below a.heap.size a (W.alloc o) := h.alloc h.size o
/-- a new box of one number -/
def BoxAt (W : World) (N : Nat) : Prop := W.cell? ⟨N, 0, none⟩ = some (.int .i64 0) ∧ W.frozen? ⟨N, 0, none⟩ = false ∧ N < W.heap.size
theorem BoxAt.below {W W' : World} {N : Nat} (h : BoxAt W N) (hB : Below W.heap.size W W') : BoxAt W' N :=
  ⟨cell_kept hB _ _ h.1, (hB.frozen (p := ⟨N, 0, none⟩) h.2.2).trans h.2.1, Nat.lt_of_lt_of_le h.2.2 hB.size⟩
theorem boxAt_new (W : World) : BoxAt (W.alloc (.cells #[.int .i64 0] 3)) W.heap.size := by
  have h := heap_alloc_new W (.cells #[.int .i64 0] 3)
  exact ⟨by rw [cell_of_row _ _ 0 _ _ _ h]; rfl, frozen_of_row _ _ 0 _ _ h, by simp⟩
theorem box_set {W : World} {N : Nat} {v : Value} (h : BoxAt W N) : (W.setCell ⟨N, 0, none⟩ v).cell? ⟨N, 0, none⟩ = some v := World.cell?_setCell_same _ _ _ h.1
theorem set1_other {W : World} {N B o : Nat} {v z : Value} (hne : B ≠ N) (h : W.cell? ⟨B, o, none⟩ = some z) : (W.setCell ⟨N, 0, none⟩ v).cell? ⟨B, o, none⟩ = some z := by
  rw [World.cell?_setCell_other _ ⟨N, 0, none⟩ ⟨B, o, none⟩ v (fun e => hne (congrArg Addr.block e).symm)]
  exact h
set_option maxHeartbeats 8000000 in
set_option maxRecDepth 100000 in
theorem targets_any {w : World} {b n s : Nat} {L : List E3} (h : GraphAt w b n s L) (x y c : Nat) (hx : x ≤ L.length) (hy : y ≤ L.length) (hc : c < 255) :
    Calls Tryz.prog 116 #[.pointer (some ⟨b, 0, none⟩), .agg #[.int .i64 (x : Int), .int .i64 (y : Int)], .int .u8 (c : Int)] w fun e w' => e = .returned (.agg #[.int .i64 ((bel (labs L) 0 L.length c + cnt (eqf (labs L) c) x : Nat) : Int), .int .i64 ((bel (labs L) 0 L.length c + cnt (eqf (labs L) c) y : Nat) : Int)]) ∧ Below w.heap.size w w' := by
  obtain ⟨W0, hW0⟩ : ∃ W0, W0 = (((w.alloc (.cells #[.pointer (some ⟨b, 0, none⟩)] 29)).alloc (.cells #[.int .i64 (x : Int), .int .i64 (y : Int)] 133)).alloc (.cells #[.int .u8 (c : Int)] 5)).alloc (.cells #[.int .i64 0, .int .i64 0] 133) := ⟨_, rfl⟩
  have hJ : Below w.heap.size w W0 := by
    rw [hW0]
    have e1 := below1 w (.cells #[.pointer (some ⟨b, 0, none⟩)] 29)
    have e2 := e1.alloc e1.size (.cells #[.int .i64 (x : Int), .int .i64 (y : Int)] 133)
    have e3 := e2.alloc e2.size (.cells #[.int .u8 (c : Int)] 5)
    exact e3.alloc e3.size _
  have k0 : W0.cell? ⟨w.heap.size, 0, none⟩ = some (.pointer (some ⟨b, 0, none⟩)) := by
    rw [hW0]; exact cell_kept (below1 _ _) _ _ (cell_kept (below1 _ _) _ _ (cell_kept (below1 _ _) _ _ (by simp)))
  have hbx := box2 (w.alloc (.cells #[.pointer (some ⟨b, 0, none⟩)] 29)) (.int .i64 (x : Int)) (.int .i64 (y : Int)) 133
  rw [World.size_alloc] at hbx
  have k1 : W0.cell? ⟨w.heap.size + 1, 0, none⟩ = some (.int .i64 (x : Int)) := by
    rw [hW0]; exact cell_kept (below1 _ _) _ _ (cell_kept (below1 _ _) _ _ hbx.1)
  have k2 : W0.cell? ⟨w.heap.size + 1, 1, none⟩ = some (.int .i64 (y : Int)) := by
    rw [hW0]; exact cell_kept (below1 _ _) _ _ (cell_kept (below1 _ _) _ _ hbx.2)
  have k3 : W0.cell? ⟨w.heap.size + 1 + 1, 0, none⟩ = some (.int .u8 (c : Int)) := by
    rw [hW0]; exact cell_kept (below1 _ _) _ _ (by rw [cell_of_row _ _ 0 _ _ _ (by have := heap_alloc_new ((w.alloc (.cells #[.pointer (some ⟨b, 0, none⟩)] 29)).alloc (.cells #[.int .i64 (x : Int), .int .i64 (y : Int)] 133)) (.cells #[.int .u8 (c : Int)] 5); rwa [World.size_alloc, World.size_alloc] at this)]; rfl)
  have hsp : SpanAt W0 (w.heap.size + 1 + 1 + 1) := by rw [hW0]; exact spanAt_new _ _ (by rw [World.size_alloc, World.size_alloc, World.size_alloc])
  clear hbx
  have hcI : (c : Int) < 255 := by omega
  have hcJ : (0 : Int) ≤ (c : Int) := by omega
  have hg := h.below hJ
  have hbd := h.bd
  obtain ⟨bl, gl, h4, hs⟩ := hg.lab
  have hll : (labs L).length = L.length := by simp [labs]
  have hX : bel (labs L) 0 L.length c ≤ 1000000 := Nat.le_trans (by rw [← hll]; exact bel_le _ _ _ _) (by rw [hll]; omega)
  have HS : Hid (∀ W, Below W0.heap.size W0 W → SeqAt 8 W bl gl (labs L)) := (fun W hB => hs.below hB : ∀ W, _)
  have HW : Hid (∀ W, Below W0.heap.size W0 W → Calls Tryz.prog 135 #[.pointer (some ⟨bl, 0, none⟩)] W _) := fun W h => S8.whole_any (HS.out W h)
  have HSp : Hid (∀ W, Below W0.heap.size W0 W → Calls Tryz.prog 138 #[S8.belowV bl, .agg #[.int .i64 0, .int .i64 ((labs L).length : Int)], .agg #[.int .i64 (c : Int), .int .i64 ((c + 1 : Nat) : Int)]] W _) := fun W h => S8.spansort_any (HS.out W h) 0 (labs L).length (Nat.zero_le _) (Nat.le_refl _) c (c + 1) (by omega) (by omega)
  have HOn : Hid (∀ W, Calls Tryz.prog 61 #[.int .i64 (IntKind.i64.wrap (c : Int))] W fun e w' => e = .returned (.agg #[.int .i64 (c : Int), .int .i64 ((c + 1 : Nat) : Int)]) ∧ Below W.heap.size W w') := (fun W => by rw [show IntKind.i64.wrap (c : Int) = (c : Int) from by rw [IntKind.wrap_i64]; omega]; exact only2_any c (by omega) W : ∀ W, _)
  rw [hll] at HW HSp
  generalize bel (labs L) 0 L.length c = X at HSp hX ⊢
  generalize bel (labs L) 0 L.length (c + 1) = Y at HSp
  have hfd : ∀ W, (Instr.field 133 (.agg #[.int .i64 (X : Int), .int .i64 (Y : Int)]) 0).run Tryz.prog W = .ok (.int .i64 (X : Int)) W := fun _ => by kernel_rfl
  go_enter Tryz.func116, Tryz.ntmps116
  go_upto_region 1 with fail
  rw [← hW0]
  have hJ0 : Below W0.heap.size W0 W0 := Below.refl _ _
  have HW0 : Hid _ := hW0
  have HG : Hid _ := hg
  have HJ : Hid _ := hJ
  have HXY : Hid (x ≤ L.length ∧ y ≤ L.length ∧ c < 256 ∧ X ≤ 1000000) := ⟨hx, hy, by omega, hX⟩
  have m0 := World.block_lt_of_cell? _ _ k0
  have m3 := World.block_lt_of_cell? _ _ k3
  have m4 := World.block_lt_of_cell? _ _ h4
  simp only at m0 m3 m4
  clear hW0 h hs hg hJ
  go_cut [7] (fun s7 wx => ∃ F, s7 = .pointer (some ⟨F, 0, none⟩) ∧ Hid (Below W0.heap.size W0 wx ∧ wx.cell? ⟨F, 0, none⟩ = some (.int .i64 (X : Int))))
  case first =>
    go_region_held3 (fun w' => w'.cell? ⟨w.heap.size, 0, none⟩ = some (.pointer (some ⟨b, 0, none⟩)) ∧ w'.cell? ⟨w.heap.size + 1 + 1, 0, none⟩ = some (.int .u8 (c : Int)) ∧ w'.cell? ⟨b, 4, none⟩ = some (.pointer (some ⟨bl, 0, none⟩)))
      (first | (refine ⟨?_, ?_, ?_⟩ <;> assumption) | (refine ⟨?_, ?_, ?_⟩ <;> (refine set1_other ?_ ?_ <;> first | assumption | omega | exact cell_kept (below1 _ _) _ _ (by assumption))) | (go_keep; done))
      (first
        | (go_at_call 135; refine (HW.out _ ?_).mono ?_; (repeat (first | exact hJ0 | refine Below.drew ?_ | refine bel_al ?_)); rintro r w1 ⟨rfl, hB1⟩; have hJ1 : Below W0.heap.size W0 w1 := (by refine chain ?_ hB1; repeat (first | exact hJ0 | refine Below.drew ?_ | refine bel_al ?_)); have q1 := cell_kept hJ1 _ _ k0; have q2 := cell_kept hJ1 _ _ k3; have q3 := cell_kept hJ1 _ _ h4; have z1 := hJ1.size; clear hJ0; have hJ0 := hJ1; clear hJ1; (first | have b1 : BoxAt w1 W0.heap.size := BoxAt.below (boxAt_new W0.drew) hB1 | have b1 : BoxAt w1 w2.heap.size := BoxAt.below (boxAt_new w2) hB1 | have b1 : BoxAt w1 W0.heap.size := BoxAt.below b2 hB1 | skip); clear hB1; (try obtain ⟨c1, d1, e1⟩ := id b1))
        | (go_at_call 61; refine (HOn.out _).mono ?_; rintro r w2 ⟨rfl, hB2⟩; have hJ1 : Below W0.heap.size W0 w2 := (by refine chain ?_ hB2; repeat (first | exact hJ0 | refine Below.drew ?_ | refine bel_al ?_)); have q4 := cell_kept hJ1 _ _ k0; have q5 := cell_kept hJ1 _ _ k3; have q6 := cell_kept hJ1 _ _ h4; have z2 := hJ1.size; clear hJ0; have hJ0 := hJ1; clear hJ1; (first | have b2 : BoxAt w2 W0.heap.size := BoxAt.below (boxAt_new W0.drew) hB2 | have b2 : BoxAt w2 w1.heap.size := BoxAt.below (boxAt_new w1) hB2 | have b2 : BoxAt w2 W0.heap.size := BoxAt.below b1 hB2 | skip); clear hB2; (try obtain ⟨c2, d2, e2⟩ := id b2))
        | (go_at_call 138; refine (HSp.out _ ?_).mono ?_; (repeat (first | exact hJ0 | refine Below.drew ?_ | refine bel_al ?_)); rintro r w3 ⟨rfl, hB3⟩; have hJ1 : Below W0.heap.size W0 w3 := (by refine chain ?_ hB3; repeat (first | exact hJ0 | refine Below.drew ?_ | refine bel_al ?_)); have q7 := cell_kept hJ1 _ _ k0; have q8 := cell_kept hJ1 _ _ k3; have q9 := cell_kept hJ1 _ _ h4; have z3 := hJ1.size; clear hJ0; have hJ0 := hJ1; clear hJ1; (first | have b3 : BoxAt w3 w1.heap.size := BoxAt.below (boxAt_new w1) hB3 | have b3 : BoxAt w3 w2.heap.size := BoxAt.below (boxAt_new w2) hB3 | have b3 : BoxAt w3 W0.heap.size := BoxAt.below b1 hB3 | have b3 : BoxAt w3 W0.heap.size := BoxAt.below b2 hB3 | have b3 : BoxAt w3 w1.heap.size := BoxAt.below b2 hB3 | have b3 : BoxAt w3 w2.heap.size := BoxAt.below b1 hB3 | skip); clear hB3; (try obtain ⟨c3, d3, e3⟩ := id b3)))
    all_goals
      go_wp2_with fail
      go_meet
      case rel =>
        first
          | exact ⟨_, rfl, hJ0.setCell (p := ⟨W0.heap.size, 0, none⟩) (Nat.le_refl _) _, box_set b3⟩
          | exact ⟨_, rfl, hJ0.setCell (p := ⟨w1.heap.size, 0, none⟩) z1 _, box_set b3⟩
          | exact ⟨_, rfl, hJ0.setCell (p := ⟨w2.heap.size, 0, none⟩) z2 _, box_set b3⟩
          | exact ⟨_, rfl, (bel_al hJ0).setCell (p := ⟨w3.heap.size, 0, none⟩) z3 _, box_set (boxAt_new w3)⟩
          | exact ⟨_, rfl, bel_al hJ0, by simp⟩
  case rest =>
    obtain ⟨F, rfl, HC⟩ := hcut
    have hBc := HC.out.1
    have t1 := cell_kept hBc _ _ k1
    have t2 := cell_kept hBc _ _ k2
    have hspc := hsp.below hBc
    obtain ⟨s0, s1, s2, s3, s4⟩ := id hspc
    have HT : Hid (TgAt wc b n s L w.heap.size (w.heap.size + 1 + 1) F c X) := (⟨HG.out.below hBc, HXY.out.2.2.1, HXY.out.2.2.2, cell_kept hBc _ _ k0, cell_kept hBc _ _ k3, HC.out.2⟩ : TgAt _ _ _ _ _ _ _ _ _ _)
    have HE : Hid (Calls Tryz.prog 95 _ wc _) := ends_targets HT.out x y HXY.out.1 HXY.out.2.1
    have HB : Hid _ := chain HJ.out hBc
    have HSc : Hid _ := hspc
    clear hBc k0 k1 k2 k3 h4 hspc hsp hfd HW HSp HOn
    go_wp2_with fail
    refine (Calls.mono HE.out ?_)
    rintro e w4 ⟨rfl, hB4⟩
    have hsp4 := SpanAt.below HSc.out hB4
    obtain ⟨v0, v1, v2, v3, v4⟩ := id hsp4
    have HB4 : Hid _ := chain HB.out hB4
    have HS4 : Hid _ := hsp4
    clear hB4 hsp4 s0 s1 s2 s3 s4 t1 t2
    go_wp2
    refine bodyPost_ret (v := .agg #[.int .i64 ((X + cnt (eqf (labs L) c) x : Nat) : Int), .int .i64 ((X + cnt (eqf (labs L) c) y : Nat) : Int)]) (by simp [results, Tryz.results116, go_sem, *]) rfl ?_
    exact ⟨rfl, (HB4.out.setCell (p := ⟨w.heap.size + 1 + 1 + 1, 0, none⟩) (by simp only; omega) _).setCell (p := ⟨w.heap.size + 1 + 1 + 1, 1, none⟩) (by simp only; omega) _⟩
end Go.Proofs.YtphjbbbnbmafnabGreatDoor.G
