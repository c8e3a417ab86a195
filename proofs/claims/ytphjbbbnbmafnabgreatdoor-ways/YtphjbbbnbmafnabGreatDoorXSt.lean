/-
  The reader's starred: a part behind itself.
-/
import Derived.Test.YtphjbbbnbmafnabGreatDoorXRr
namespace Go.Proofs.YtphjbbbnbmafnabGreatDoor.G
open Go.RowKit Go.Shelf Go.Proofs.YtphjbbbnbmafnabGreatDoor.RxM

/-- nine cells as they lie -/
abbrev c9 (P : P4) : Array Value := #[.int .u64 (P.1.1 : Int), .int .u64 (P.1.2.1 : Int), .int .u64 (P.1.2.2.1 : Int), .int .u64 (P.1.2.2.2 : Int), .int .u64 (P.2.1.1 : Int), .int .u64 (P.2.1.2.1 : Int), .int .u64 (P.2.1.2.2.1 : Int), .int .u64 (P.2.1.2.2.2 : Int), .bool P.2.2]
theorem row9 {w : World} {B : Nat} {t : TypeId} {a0 a1 a2 a3 a4 a5 a6 a7 a8 : Value} (h : w.heap[B]? = some (.cells #[a0, a1, a2, a3, a4, a5, a6, a7, a8] t (0, 0))) :
    (w.cell? ⟨B, 0, none⟩ = some a0 ∧ w.cell? ⟨B, 1, none⟩ = some a1 ∧ w.cell? ⟨B, 2, none⟩ = some a2 ∧ w.cell? ⟨B, 3, none⟩ = some a3 ∧ w.cell? ⟨B, 4, none⟩ = some a4 ∧ w.cell? ⟨B, 5, none⟩ = some a5 ∧ w.cell? ⟨B, 6, none⟩ = some a6 ∧ w.cell? ⟨B, 7, none⟩ = some a7 ∧ w.cell? ⟨B, 8, none⟩ = some a8) ∧
    (w.frozen? ⟨B, 0, none⟩ = false ∧ w.frozen? ⟨B, 1, none⟩ = false ∧ w.frozen? ⟨B, 2, none⟩ = false ∧ w.frozen? ⟨B, 3, none⟩ = false ∧ w.frozen? ⟨B, 4, none⟩ = false ∧ w.frozen? ⟨B, 5, none⟩ = false ∧ w.frozen? ⟨B, 6, none⟩ = false ∧ w.frozen? ⟨B, 7, none⟩ = false ∧ w.frozen? ⟨B, 8, none⟩ = false) :=
  ⟨⟨by rw [cell_of_row _ _ 0 _ _ _ h]; rfl, by rw [cell_of_row _ _ 1 _ _ _ h]; rfl, by rw [cell_of_row _ _ 2 _ _ _ h]; rfl, by rw [cell_of_row _ _ 3 _ _ _ h]; rfl, by rw [cell_of_row _ _ 4 _ _ _ h]; rfl, by rw [cell_of_row _ _ 5 _ _ _ h]; rfl, by rw [cell_of_row _ _ 6 _ _ _ h]; rfl, by rw [cell_of_row _ _ 7 _ _ _ h]; rfl, by rw [cell_of_row _ _ 8 _ _ _ h]; rfl⟩,
    frozen_of_row _ _ 0 _ _ h, frozen_of_row _ _ 1 _ _ h, frozen_of_row _ _ 2 _ _ h, frozen_of_row _ _ 3 _ _ h, frozen_of_row _ _ 4 _ _ h, frozen_of_row _ _ 5 _ _ h, frozen_of_row _ _ 6 _ _ h, frozen_of_row _ _ 7 _ _ h, frozen_of_row _ _ 8 _ _ h⟩
/-- nine cells are written -/
abbrev put9 (W : World) (B : Nat) (x0 x1 x2 x3 x4 x5 x6 x7 x8 : Value) : World := ((((((((W.setCell ⟨B, 0, none⟩ x0).setCell ⟨B, 1, none⟩ x1).setCell ⟨B, 2, none⟩ x2).setCell ⟨B, 3, none⟩ x3).setCell ⟨B, 4, none⟩ x4).setCell ⟨B, 5, none⟩ x5).setCell ⟨B, 6, none⟩ x6).setCell ⟨B, 7, none⟩ x7).setCell ⟨B, 8, none⟩ x8
theorem set9 {W : World} {B : Nat} {t : TypeId} {a0 a1 a2 a3 a4 a5 a6 a7 a8 : Value} (h : W.heap[B]? = some (.cells #[a0, a1, a2, a3, a4, a5, a6, a7, a8] t (0, 0))) (x0 x1 x2 x3 x4 x5 x6 x7 x8 : Value) : (put9 W B x0 x1 x2 x3 x4 x5 x6 x7 x8).heap[B]? = some (.cells #[x0, x1, x2, x3, x4, x5, x6, x7, x8] t (0, 0)) := by
  have k0 : (W.setCell ⟨B, 0, none⟩ x0).heap[B]? = some (.cells #[x0, a1, a2, a3, a4, a5, a6, a7, a8] t (0, 0)) := xset_row _ B 0 _ _ _ x0 h
  have k1 : ((W.setCell ⟨B, 0, none⟩ x0).setCell ⟨B, 1, none⟩ x1).heap[B]? = some (.cells #[x0, x1, a2, a3, a4, a5, a6, a7, a8] t (0, 0)) := xset_row _ B 1 _ _ _ x1 k0
  have k2 : (((W.setCell ⟨B, 0, none⟩ x0).setCell ⟨B, 1, none⟩ x1).setCell ⟨B, 2, none⟩ x2).heap[B]? = some (.cells #[x0, x1, x2, a3, a4, a5, a6, a7, a8] t (0, 0)) := xset_row _ B 2 _ _ _ x2 k1
  have k3 : ((((W.setCell ⟨B, 0, none⟩ x0).setCell ⟨B, 1, none⟩ x1).setCell ⟨B, 2, none⟩ x2).setCell ⟨B, 3, none⟩ x3).heap[B]? = some (.cells #[x0, x1, x2, x3, a4, a5, a6, a7, a8] t (0, 0)) := xset_row _ B 3 _ _ _ x3 k2
  have k4 : (((((W.setCell ⟨B, 0, none⟩ x0).setCell ⟨B, 1, none⟩ x1).setCell ⟨B, 2, none⟩ x2).setCell ⟨B, 3, none⟩ x3).setCell ⟨B, 4, none⟩ x4).heap[B]? = some (.cells #[x0, x1, x2, x3, x4, a5, a6, a7, a8] t (0, 0)) := xset_row _ B 4 _ _ _ x4 k3
  have k5 : ((((((W.setCell ⟨B, 0, none⟩ x0).setCell ⟨B, 1, none⟩ x1).setCell ⟨B, 2, none⟩ x2).setCell ⟨B, 3, none⟩ x3).setCell ⟨B, 4, none⟩ x4).setCell ⟨B, 5, none⟩ x5).heap[B]? = some (.cells #[x0, x1, x2, x3, x4, x5, a6, a7, a8] t (0, 0)) := xset_row _ B 5 _ _ _ x5 k4
  have k6 : (((((((W.setCell ⟨B, 0, none⟩ x0).setCell ⟨B, 1, none⟩ x1).setCell ⟨B, 2, none⟩ x2).setCell ⟨B, 3, none⟩ x3).setCell ⟨B, 4, none⟩ x4).setCell ⟨B, 5, none⟩ x5).setCell ⟨B, 6, none⟩ x6).heap[B]? = some (.cells #[x0, x1, x2, x3, x4, x5, x6, a7, a8] t (0, 0)) := xset_row _ B 6 _ _ _ x6 k5
  have k7 : ((((((((W.setCell ⟨B, 0, none⟩ x0).setCell ⟨B, 1, none⟩ x1).setCell ⟨B, 2, none⟩ x2).setCell ⟨B, 3, none⟩ x3).setCell ⟨B, 4, none⟩ x4).setCell ⟨B, 5, none⟩ x5).setCell ⟨B, 6, none⟩ x6).setCell ⟨B, 7, none⟩ x7).heap[B]? = some (.cells #[x0, x1, x2, x3, x4, x5, x6, x7, a8] t (0, 0)) := xset_row _ B 7 _ _ _ x7 k6
  have k8 : (((((((((W.setCell ⟨B, 0, none⟩ x0).setCell ⟨B, 1, none⟩ x1).setCell ⟨B, 2, none⟩ x2).setCell ⟨B, 3, none⟩ x3).setCell ⟨B, 4, none⟩ x4).setCell ⟨B, 5, none⟩ x5).setCell ⟨B, 6, none⟩ x6).setCell ⟨B, 7, none⟩ x7).setCell ⟨B, 8, none⟩ x8).heap[B]? = some (.cells #[x0, x1, x2, x3, x4, x5, x6, x7, x8] t (0, 0)) := xset_row _ B 8 _ _ _ x8 k7
  exact k8
theorem same9 (W : World) (B : Nat) (x0 x1 x2 x3 x4 x5 x6 x7 x8 : Value) : Same W (put9 W B x0 x1 x2 x3 x4 x5 x6 x7 x8) (fun k => k = B) :=
  (((((((((Same.set W ⟨B, 0, none⟩ x0).trans (Same.set _ ⟨B, 1, none⟩ x1)).trans (Same.set _ ⟨B, 2, none⟩ x2)).trans (Same.set _ ⟨B, 3, none⟩ x3)).trans (Same.set _ ⟨B, 4, none⟩ x4)).trans (Same.set _ ⟨B, 5, none⟩ x5)).trans (Same.set _ ⟨B, 6, none⟩ x6)).trans (Same.set _ ⟨B, 7, none⟩ x7)).trans (Same.set _ ⟨B, 8, none⟩ x8)).mono fun k _ e => by rcases e with (((((((e | e) | e) | e) | e) | e) | e) | e) | e <;> exact e
theorem below9 {n : Nat} {A W : World} {B : Nat} (h : Below n A W) (hB : n ≤ B) (x0 x1 x2 x3 x4 x5 x6 x7 x8 : Value) : Below n A (put9 W B x0 x1 x2 x3 x4 x5 x6 x7 x8) :=
  ((((((((h.setCell (p := ⟨B, 0, none⟩) hB x0).setCell (p := ⟨B, 1, none⟩) hB x1).setCell (p := ⟨B, 2, none⟩) hB x2).setCell (p := ⟨B, 3, none⟩) hB x3).setCell (p := ⟨B, 4, none⟩) hB x4).setCell (p := ⟨B, 5, none⟩) hB x5).setCell (p := ⟨B, 6, none⟩) hB x6).setCell (p := ⟨B, 7, none⟩) hB x7).setCell (p := ⟨B, 8, none⟩) hB x8
/-- a block that was not written -/
theorem Same.row {w w' : World} {S : Nat → Prop} (h : Same w w' S) {k : Nat} {o : Obj} (hk : w.heap[k]? = some o) (hn : ¬ S k) : w'.heap[k]? = some o := (h.2 k (Array.getElem?_eq_some_iff.1 hk).1 hn).trans hk
set_option maxRecDepth 100000 in
set_option maxHeartbeats 8000000 in
theorem starred_any (base R X : Nat) (s : ByteArray) (n : Nat) (uc : Bool) (gb cb gt ct : Nat) (ss ts : List S4) (P : P4) (h1 : ok4 P.1) (h2 : ok4 P.2.1) (w : World) (h : Rdr w base R X s n uc gb cb gt ct ss ts) (hin : ∀ p, mem4 P.2.1 p = true → p < ss.length) :
    Calls Tryz.prog 108 #[.pointer (some ⟨R, 0, none⟩), vp P] w fun e w' => e = .returned (vp (star4 P)) ∧ Rdr w' base R X s n uc gb cb gt ct (linkAll P.1 ss (plTo P.2.1.1 P.2.1.2.1 P.2.1.2.2.1 P.2.1.2.2.2 4)) ts ∧ Same w w' (fun k => k = gb) ∧ Below base w w' := by
  have hl := h.lt
  have hbs := h.bs
  obtain ⟨W0, hW0⟩ : ∃ W0, W0 = (w.alloc (.cells (c9 P) 118)).alloc (.cells #[.int .u64 0, .int .u64 0, .int .u64 0, .int .u64 0, .int .u64 0, .int .u64 0, .int .u64 0, .int .u64 0, .bool false] 118) := ⟨_, rfl⟩
  have hJ : Below w.heap.size w W0 := by rw [hW0]; exact xal (below1 _ _)
  have r0 : W0.heap[w.heap.size]? = some (.cells (c9 P) 118 (0, 0)) := by rw [hW0]; exact heap_keep (below1 _ _) (heap_alloc_new w _)
  have r1 : W0.heap[w.heap.size + 1]? = some (.cells #[.int .u64 0, .int .u64 0, .int .u64 0, .int .u64 0, .int .u64 0, .int .u64 0, .int .u64 0, .int .u64 0, .bool false] 118 (0, 0)) := by
    rw [hW0]
    have := heap_alloc_new (w.alloc (.cells (c9 P) 118)) (.cells #[.int .u64 0, .int .u64 0, .int .u64 0, .int .u64 0, .int .u64 0, .int .u64 0, .int .u64 0, .int .u64 0, .bool false] 118)
    rwa [World.size_alloc] at this
  have hR0 := h.below hJ
  obtain ⟨⟨f0, f1, f2, f3⟩, ⟨l0, l1, l2, l3⟩, e⟩ := P
  have HLk : Hid (Calls Tryz.prog 86 #[.pointer (some ⟨R, 0, none⟩), .agg #[.int .u64 (l0 : Int), .int .u64 (l1 : Int), .int .u64 (l2 : Int), .int .u64 (l3 : Int)], .agg #[.int .u64 (f0 : Int), .int .u64 (f1 : Int), .int .u64 (f2 : Int), .int .u64 (f3 : Int)]] W0 _) :=
    link_any R X base gb cb ss hR0.okb (l0, l1, l2, l3) (f0, f1, f2, f3) h2 h1 W0 hR0.cells.1.2.2.1 hR0.cells.2.1.1 hR0.ne.2.1 hR0.ne.2.2.1 hR0.ob (fun p hp => hin p (mem_plTo.1 hp)) hR0.tz hbs.1
  have HR0 : Hid _ := hR0
  have HJ : Hid _ := hJ
  have HH : Hid _ := h
  have HR1 : Hid _ := r1
  have HRa : Hid _ := r0
  have HO : Hid (_ ∧ _) := ⟨h1, h2⟩
  obtain ⟨⟨c0, c1, c2, c3, c4, c5, c6, c7, c8⟩, _⟩ := row9 r0
  clear hR0 hJ h r1 r0 h1 h2 hin
  simp only [vp, star4]
  go_enter Tryz.func108, Tryz.ntmps108
  go_wp2_with fail
  rw [← hW0]
  have HW0 : Hid _ := hW0
  clear hW0
  go_wp2_with fail
  refine HLk.out.mono ?_
  rintro e1 w1 ⟨rfl, ho, hs, hB⟩
  have q0 := hs.row HRa.out (by omega)
  have q1 := hs.row HR1.out (by omega)
  have k0 : (w1.setCell ⟨w.heap.size, 8, none⟩ (.bool true)).heap[w.heap.size]? = some (.cells #[.int .u64 (f0 : Int), .int .u64 (f1 : Int), .int .u64 (f2 : Int), .int .u64 (f3 : Int), .int .u64 (l0 : Int), .int .u64 (l1 : Int), .int .u64 (l2 : Int), .int .u64 (l3 : Int), .bool true] 118 (0, 0)) := xset_row w1 w.heap.size 8 _ _ _ (.bool true) q0
  have k1 := xset_other w1 w.heap.size 8 (w.heap.size + 1) (.bool true) q1 (by omega)
  have z8 := (row9 q0).2.2.2.2.2.2.2.2.2
  have hB2 : Below base w (w1.setCell ⟨w.heap.size, 8, none⟩ (.bool true)) := ((HJ.out.mono (by omega)).trans hB).setCell (p := ⟨w.heap.size, 8, none⟩) (show base ≤ w.heap.size by omega) _
  have hs2 : Same w (w1.setCell ⟨w.heap.size, 8, none⟩ (.bool true)) (fun k => k = gb) := (((Same.below HJ.out).trans hs).trans (Same.set w1 ⟨w.heap.size, 8, none⟩ (.bool true))).mono fun k hk e => by
    rcases e with (e | e) | e
    · exact e.elim
    · exact e
    · simp only at e; omega
  have hR2 : Rdr (w1.setCell ⟨w.heap.size, 8, none⟩ (.bool true)) base R X s n uc gb cb gt ct (linkAll (f0, f1, f2, f3) ss (plTo l0 l1 l2 l3 4)) ts := (HR0.out.linked hs hB ho (linkAll_ok HO.out.1 HR0.out.okb _) (linkAll_len _ _ _)).same (Same.set w1 ⟨w.heap.size, 8, none⟩ (.bool true)) ((Below.refl base w1).setCell (p := ⟨w.heap.size, 8, none⟩) (show base ≤ w.heap.size by omega) _) (fun k hk e => by simp only at e; rcases hk with hk | hk | hk | hk <;> omega)
  have HS2 : Hid (_ ∧ _ ∧ _ ∧ _) := ⟨hR2, hs2, hB2, k1⟩
  obtain ⟨⟨d0, d1, d2, d3, d4, d5, d6, d7, d8⟩, _⟩ := row9 q0
  obtain ⟨_, u0, u1, u2, u3, u4, u5, u6, u7, u8⟩ := row9 q1
  clear hR2 hs2 hB2 ho hs hB q0 q1
  obtain ⟨_, t0, t1, t2, t3, t4, t5, t6, t7, t8⟩ := row9 k1
  clear k0 k1 c0 c1 c2 c3 c4 c5 c6 c7 c8
  go_wp2
  have hB3 := below9 (HS2.out.2.2.1) (B := w.heap.size + 1) (by omega) (.int .u64 (f0 : Int)) (.int .u64 (f1 : Int)) (.int .u64 (f2 : Int)) (.int .u64 (f3 : Int)) (.int .u64 (l0 : Int)) (.int .u64 (l1 : Int)) (.int .u64 (l2 : Int)) (.int .u64 (l3 : Int)) (.bool true)
  have hs3 := same9 (w1.setCell ⟨w.heap.size, 8, none⟩ (.bool true)) (w.heap.size + 1) (.int .u64 (f0 : Int)) (.int .u64 (f1 : Int)) (.int .u64 (f2 : Int)) (.int .u64 (f3 : Int)) (.int .u64 (l0 : Int)) (.int .u64 (l1 : Int)) (.int .u64 (l2 : Int)) (.int .u64 (l3 : Int)) (.bool true)
  have hx3 := below9 (Below.refl base (w1.setCell ⟨w.heap.size, 8, none⟩ (.bool true))) (B := w.heap.size + 1) (by omega) (.int .u64 (f0 : Int)) (.int .u64 (f1 : Int)) (.int .u64 (f2 : Int)) (.int .u64 (f3 : Int)) (.int .u64 (l0 : Int)) (.int .u64 (l1 : Int)) (.int .u64 (l2 : Int)) (.int .u64 (l3 : Int)) (.bool true)
  refine bodyPost_ret (results_cell_row rfl _ _ (w.heap.size + 1) _ _ (0, 0) _ rfl (set9 HS2.out.2.2.2 _ _ _ _ _ _ _ _ _) rfl rfl rfl) rfl ⟨rfl, HS2.out.1.same hs3 hx3 (fun k hk e => by rcases hk with hk | hk | hk | hk <;> omega), (HS2.out.2.1.trans hs3).mono (fun k hk e => by rcases e with e | e; exact e; omega), hB3⟩
end Go.Proofs.YtphjbbbnbmafnabGreatDoor.G
