/-
  The reader's joined: one part behind the other.
-/
import Derived.Test.YtphjbbbnbmafnabGreatDoorXSt
namespace Go.Proofs.YtphjbbbnbmafnabGreatDoor.G
open Go.RowKit Go.Shelf Go.Proofs.YtphjbbbnbmafnabGreatDoor.RxM

abbrev z9 : Array Value := #[.int .u64 0, .int .u64 0, .int .u64 0, .int .u64 0, .int .u64 0, .int .u64 0, .int .u64 0, .int .u64 0, .bool false]
/-- what is written behind the reader's memory does not change it -/
theorem Rdr.kept {w1 w2 : World} {N base R X : Nat} {s : ByteArray} {n : Nat} {uc : Bool} {gb cb gt ct : Nat} {ss ts : List S4} (h : Rdr w1 base R X s n uc gb cb gt ct ss ts) (hB : Below N w1 w2) (hN : R < N ∧ X < N ∧ gb < N ∧ gt < N) : Rdr w2 base R X s n uc gb cb gt ct ss ts := by
  have hbs := h.bs
  refine h.same (S := fun k => N ≤ k) ⟨hB.size, fun k _ hn => hB.block k (by simpa using hn)⟩ (hB.mono (by omega)) (fun k hk => ?_)
  rcases hk with hk | hk | hk | hk <;> omega
theorem Same.kept {w w1 w2 : World} {S : Nat → Prop} (h : Same w w1 S) (hB : Below w.heap.size w1 w2) : Same w w2 S := ⟨Nat.le_trans h.1 hB.size, fun k hk hn => (hB.block k hk).trans (h.2 k hk hn)⟩
set_option maxRecDepth 100000 in
set_option maxHeartbeats 8000000 in
theorem joined_any (base R X : Nat) (s : ByteArray) (n : Nat) (uc : Bool) (gb cb gt ct : Nat) (ss ts : List S4) (P Q : P4) (h1 : ok4 P.1) (h2 : ok4 P.2.1) (h3 : ok4 Q.1) (h4 : ok4 Q.2.1) (w : World) (h : Rdr w base R X s n uc gb cb gt ct ss ts) (hin : ∀ p, mem4 P.2.1 p = true → p < ss.length) :
    Calls Tryz.prog 55 #[.pointer (some ⟨R, 0, none⟩), vp P, vp Q] w fun e w' => e = .returned (vp (join4 P Q)) ∧ Rdr w' base R X s n uc gb cb gt ct (linkAll Q.1 ss (plTo P.2.1.1 P.2.1.2.1 P.2.1.2.2.1 P.2.1.2.2.2 4)) ts ∧ Same w w' (fun k => k = gb) ∧ Below base w w' := by
  have hl := h.lt
  have hbs := h.bs
  obtain ⟨W0, hW0⟩ : ∃ W0, W0 = ((w.alloc (.cells (c9 P) 118)).alloc (.cells (c9 Q) 118)).alloc (.cells z9 118) := ⟨_, rfl⟩
  have hJ : Below w.heap.size w W0 := by rw [hW0]; exact xal (xal (below1 _ _))
  have hs0 : W0.heap.size = w.heap.size + 1 + 1 + 1 := by rw [hW0]; simp
  have r0 : W0.heap[w.heap.size]? = some (.cells (c9 P) 118 (0, 0)) := by rw [hW0]; exact heap_keep (below1 _ _) (heap_keep (below1 _ _) (heap_alloc_new w _))
  have r1 : W0.heap[w.heap.size + 1]? = some (.cells (c9 Q) 118 (0, 0)) := by
    rw [hW0]
    refine heap_keep (below1 _ _) ?_
    have := heap_alloc_new (w.alloc (.cells (c9 P) 118)) (.cells (c9 Q) 118)
    rwa [World.size_alloc] at this
  have r2 : W0.heap[w.heap.size + 1 + 1]? = some (.cells z9 118 (0, 0)) := by
    rw [hW0]
    have := heap_alloc_new ((w.alloc (.cells (c9 P) 118)).alloc (.cells (c9 Q) 118)) (.cells z9 118)
    rwa [World.size_alloc, World.size_alloc] at this
  have hR0 := h.below hJ
  obtain ⟨⟨f0, f1, f2, f3⟩, ⟨l0, l1, l2, l3⟩, e⟩ := P
  obtain ⟨⟨g0, g1, g2, g3⟩, ⟨m0, m1, m2, m3⟩, f⟩ := Q
  have HLk : Hid (Calls Tryz.prog 86 #[.pointer (some ⟨R, 0, none⟩), .agg #[.int .u64 (l0 : Int), .int .u64 (l1 : Int), .int .u64 (l2 : Int), .int .u64 (l3 : Int)], .agg #[.int .u64 (g0 : Int), .int .u64 (g1 : Int), .int .u64 (g2 : Int), .int .u64 (g3 : Int)]] W0 _) :=
    link_any R X base gb cb ss hR0.okb (l0, l1, l2, l3) (g0, g1, g2, g3) h2 h3 W0 hR0.cells.1.2.2.1 hR0.cells.2.1.1 hR0.ne.2.1 hR0.ne.2.2.1 hR0.ob (fun p hp => hin p (mem_plTo.1 hp)) hR0.tz hbs.1
  have HR0 : Hid _ := hR0
  have HJ : Hid _ := hJ
  have HH : Hid _ := h
  have HR : Hid (_ ∧ _ ∧ _) := ⟨r0, r1, r2⟩
  have HO : Hid (ok4 (g0, g1, g2, g3)) := h3
  have HOr1 : Hid (∀ W, Calls Tryz.prog 85 _ W _) := fun W => setor_any f0 f1 f2 f3 g0 g1 g2 g3 h1.1 h1.2.1 h1.2.2.1 h1.2.2.2 h3.1 h3.2.1 h3.2.2.1 h3.2.2.2 W
  have HOr2 : Hid (∀ W, Calls Tryz.prog 85 _ W _) := fun W => setor_any m0 m1 m2 m3 l0 l1 l2 l3 h4.1 h4.2.1 h4.2.2.1 h4.2.2.2 h2.1 h2.2.1 h2.2.2.1 h2.2.2.2 W
  obtain ⟨⟨c0, c1, c2, c3, c4, c5, c6, c7, c8⟩, _⟩ := row9 r0
  obtain ⟨⟨d0, d1, d2, d3, d4, d5, d6, d7, d8⟩, _⟩ := row9 r1
  clear hR0 hJ h r0 r1 r2 h1 h2 h3 h4 hin
  simp only [vp, join4]
  cases e <;> cases f
  case false.false =>
    go_enter Tryz.func55, Tryz.ntmps55
    go_wp2_with fail
    rw [← hW0]
    have HW0 : Hid _ := hW0
    clear hW0
    go_wp2_with fail
    refine HLk.out.mono ?_
    rintro e1 w1 ⟨rfl, ho, hs, hB⟩
    have q0 := hs.row HR.out.1 (by omega)
    have q1 := hs.row HR.out.2.1 (by omega)
    have q2 := hs.row HR.out.2.2 (by omega)
    have hs1 : w.heap.size + 1 + 1 + 1 ≤ w1.heap.size := by have := hs.1; omega
    have hRd := HR0.out.linked hs hB ho (linkAll_ok HO.out HR0.out.okb _) (linkAll_len _ _ _)
    have HI : Hid (_ ∧ _ ∧ _) := ⟨hRd, ((Same.below HJ.out).trans hs).mono (T := fun k => k = gb) (fun _ _ e => e.elim False.elim id), (HJ.out.mono (by omega)).trans hB⟩
    clear hRd ho hs hB c0 c1 c2 c3 c4 c5 c6 c7 c8 d0 d1 d2 d3 d4 d5 d6 d7 d8
    obtain ⟨W2, hW2⟩ : ∃ W2, W2 = w1.alloc (.cells (c9 ((f0, f1, f2, f3), (m0, m1, m2, m3), false)) 118) := ⟨_, rfl⟩
    have hJ2 : Below w1.heap.size w1 W2 := by rw [hW2]; exact below1 _ _
    have hs2 : W2.heap.size = w1.heap.size + 1 := by rw [hW2]; simp
    have k0 := heap_keep hJ2 q0
    have k1 := heap_keep hJ2 q1
    have k2 := heap_keep hJ2 q2
    have k3 : W2.heap[w1.heap.size]? = some (.cells (c9 ((f0, f1, f2, f3), (m0, m1, m2, m3), false)) 118 (0, 0)) := by rw [hW2]; exact heap_alloc_new w1 _
    have HK : Hid (_ ∧ _ ∧ _ ∧ _ ∧ _) := ⟨hJ2, k0, k1, k2, k3⟩
    obtain ⟨⟨c0, c1, c2, c3, c4, c5, c6, c7, c8⟩, _⟩ := row9 q0
    obtain ⟨⟨d0, d1, d2, d3, d4, d5, d6, d7, d8⟩, _⟩ := row9 q1
    obtain ⟨_, x0, x1, x2, x3, x4, x5, x6, x7, x8⟩ := row9 q2
    have n0 : w1.heap.size ≠ w.heap.size := by omega
    have n1 : w1.heap.size ≠ w.heap.size + 1 := by omega
    have n2 : w1.heap.size ≠ w.heap.size + 1 + 1 := by omega
    have n3 := n0.symm
    have n4 := n1.symm
    have n5 := n2.symm
    have a8 := fun o => cell_kept (below1 w1 o) _ _ c8
    have b0 := fun o => cell_kept (below1 w1 o) _ _ d0
    have b1 := fun o => cell_kept (below1 w1 o) _ _ d1
    have b2 := fun o => cell_kept (below1 w1 o) _ _ d2
    have b3 := fun o => cell_kept (below1 w1 o) _ _ d3
    have b8 := fun o => cell_kept (below1 w1 o) _ _ d8
    have a4 := fun o => cell_kept (below1 w1 o) _ _ c4
    have a5 := fun o => cell_kept (below1 w1 o) _ _ c5
    have a6 := fun o => cell_kept (below1 w1 o) _ _ c6
    have a7 := fun o => cell_kept (below1 w1 o) _ _ c7
    have y := fun o => row9 (heap_keep (below1 w1 o) q2)
    have yc0 := fun o => (y o).1.1
    have yf0 := fun o => (y o).2.1
    have yc1 := fun o => (y o).1.2.1
    have yf1 := fun o => (y o).2.2.1
    have yc2 := fun o => (y o).1.2.2.1
    have yf2 := fun o => (y o).2.2.2.1
    have yc3 := fun o => (y o).1.2.2.2.1
    have yf3 := fun o => (y o).2.2.2.2.1
    have yc4 := fun o => (y o).1.2.2.2.2.1
    have yf4 := fun o => (y o).2.2.2.2.2.1
    have yc5 := fun o => (y o).1.2.2.2.2.2.1
    have yf5 := fun o => (y o).2.2.2.2.2.2.1
    have yc6 := fun o => (y o).1.2.2.2.2.2.2.1
    have yf6 := fun o => (y o).2.2.2.2.2.2.2.1
    have yc7 := fun o => (y o).1.2.2.2.2.2.2.2.1
    have yf7 := fun o => (y o).2.2.2.2.2.2.2.2.1
    have yc8 := fun o => (y o).1.2.2.2.2.2.2.2.2
    have yf8 := fun o => (y o).2.2.2.2.2.2.2.2.2
    clear y
    clear q0 q1 q2 hJ2 k0 k1 k2 k3
    have HP : Hid (_ ∧ _ ∧ _ ∧ _) := ⟨HK.out.1.mono (show w.heap.size ≤ w1.heap.size by omega), HK.out.2.1, HK.out.2.2.2.1, HK.out.2.2.2.2⟩
    have HF : Hid (_ ∧ _) := ⟨HP.out.1, HP.out.2.2.1⟩
    go_wp2
    have hB9 := below9 HF.out.1 (B := w.heap.size + 1 + 1) (by omega) (.int .u64 ((f0 : Nat) : Int)) (.int .u64 ((f1 : Nat) : Int)) (.int .u64 ((f2 : Nat) : Int)) (.int .u64 ((f3 : Nat) : Int)) (.int .u64 ((m0 : Nat) : Int)) (.int .u64 ((m1 : Nat) : Int)) (.int .u64 ((m2 : Nat) : Int)) (.int .u64 ((m3 : Nat) : Int)) (.bool false)
    subst hW2
    exact bodyPost_ret (results_cell_row rfl _ _ (w.heap.size + 1 + 1) _ _ (0, 0) _ rfl (set9 HF.out.2 (.int .u64 ((f0 : Nat) : Int)) (.int .u64 ((f1 : Nat) : Int)) (.int .u64 ((f2 : Nat) : Int)) (.int .u64 ((f3 : Nat) : Int)) (.int .u64 ((m0 : Nat) : Int)) (.int .u64 ((m1 : Nat) : Int)) (.int .u64 ((m2 : Nat) : Int)) (.int .u64 ((m3 : Nat) : Int)) (.bool false)) rfl rfl rfl) rfl ⟨rfl, HI.out.1.kept hB9 hl, HI.out.2.1.kept hB9, HI.out.2.2.trans (hB9.mono (by omega))⟩
  case false.true =>
    go_enter Tryz.func55, Tryz.ntmps55
    go_wp2_with fail
    rw [← hW0]
    have HW0 : Hid _ := hW0
    clear hW0
    go_wp2_with fail
    refine HLk.out.mono ?_
    rintro e1 w1 ⟨rfl, ho, hs, hB⟩
    have q0 := hs.row HR.out.1 (by omega)
    have q1 := hs.row HR.out.2.1 (by omega)
    have q2 := hs.row HR.out.2.2 (by omega)
    have hs1 : w.heap.size + 1 + 1 + 1 ≤ w1.heap.size := by have := hs.1; omega
    have hRd := HR0.out.linked hs hB ho (linkAll_ok HO.out HR0.out.okb _) (linkAll_len _ _ _)
    have HI : Hid (_ ∧ _ ∧ _) := ⟨hRd, ((Same.below HJ.out).trans hs).mono (T := fun k => k = gb) (fun _ _ e => e.elim False.elim id), (HJ.out.mono (by omega)).trans hB⟩
    clear hRd ho hs hB c0 c1 c2 c3 c4 c5 c6 c7 c8 d0 d1 d2 d3 d4 d5 d6 d7 d8
    obtain ⟨W2, hW2⟩ : ∃ W2, W2 = w1.alloc (.cells (c9 ((f0, f1, f2, f3), (m0, m1, m2, m3), false)) 118) := ⟨_, rfl⟩
    have hJ2 : Below w1.heap.size w1 W2 := by rw [hW2]; exact below1 _ _
    have hs2 : W2.heap.size = w1.heap.size + 1 := by rw [hW2]; simp
    have k0 := heap_keep hJ2 q0
    have k1 := heap_keep hJ2 q1
    have k2 := heap_keep hJ2 q2
    have k3 : W2.heap[w1.heap.size]? = some (.cells (c9 ((f0, f1, f2, f3), (m0, m1, m2, m3), false)) 118 (0, 0)) := by rw [hW2]; exact heap_alloc_new w1 _
    have HK : Hid (_ ∧ _ ∧ _ ∧ _ ∧ _) := ⟨hJ2, k0, k1, k2, k3⟩
    obtain ⟨⟨c0, c1, c2, c3, c4, c5, c6, c7, c8⟩, _⟩ := row9 q0
    obtain ⟨⟨d0, d1, d2, d3, d4, d5, d6, d7, d8⟩, _⟩ := row9 q1
    obtain ⟨_, x0, x1, x2, x3, x4, x5, x6, x7, x8⟩ := row9 q2
    have n0 : w1.heap.size ≠ w.heap.size := by omega
    have n1 : w1.heap.size ≠ w.heap.size + 1 := by omega
    have n2 : w1.heap.size ≠ w.heap.size + 1 + 1 := by omega
    have n3 := n0.symm
    have n4 := n1.symm
    have n5 := n2.symm
    have a8 := fun o => cell_kept (below1 w1 o) _ _ c8
    have b0 := fun o => cell_kept (below1 w1 o) _ _ d0
    have b1 := fun o => cell_kept (below1 w1 o) _ _ d1
    have b2 := fun o => cell_kept (below1 w1 o) _ _ d2
    have b3 := fun o => cell_kept (below1 w1 o) _ _ d3
    have b8 := fun o => cell_kept (below1 w1 o) _ _ d8
    have a4 := fun o => cell_kept (below1 w1 o) _ _ c4
    have a5 := fun o => cell_kept (below1 w1 o) _ _ c5
    have a6 := fun o => cell_kept (below1 w1 o) _ _ c6
    have a7 := fun o => cell_kept (below1 w1 o) _ _ c7
    clear q0 q1 q2 hJ2 k0 k1 k2 k3
    go_wp2_with fail
    rw [← hW2]
    have HW2 : Hid _ := hW2
    clear hW2 a4 a5 a6 a7 a8 b0 b1 b2 b3 b8 c0 c1 c2 c3 c4 c5 c6 c7 c8 d0 d1 d2 d3 d4 d5 d6 d7 d8 x0 x1 x2 x3 x4 x5 x6 x7 x8
    have HP : Hid (_ ∧ _ ∧ _ ∧ _) := ⟨HK.out.1.mono (show w.heap.size ≤ w1.heap.size by omega), HK.out.2.1, HK.out.2.2.2.1, HK.out.2.2.2.2⟩
    refine (HOr2.out _).mono ?_
    rintro e3 w3 ⟨rfl, hB3⟩
    have q2 := heap_keep hB3 HP.out.2.2.1
    have q3 := heap_keep hB3 HP.out.2.2.2
    obtain ⟨⟨i0, i1, i2, i3, i4, i5, i6, i7, i8⟩, ⟨j0, j1, j2, j3, j4, j5, j6, j7, j8⟩⟩ := row9 q3
    obtain ⟨_, x0, x1, x2, x3, x4, x5, x6, x7, x8⟩ := row9 q2
    have hP := below4 (HP.out.1.trans (hB3.mono (by have := HP.out.1.size; omega))) (g := w1.heap.size) (by omega) 4 5 6 7 (.int .u64 ((m0 ||| l0 : Nat) : Int)) (.int .u64 ((m1 ||| l1 : Nat) : Int)) (.int .u64 ((m2 ||| l2 : Nat) : Int)) (.int .u64 ((m3 ||| l3 : Nat) : Int))
    have p2 := other4 q2 n5 4 5 6 7 (.int .u64 ((m0 ||| l0 : Nat) : Int)) (.int .u64 ((m1 ||| l1 : Nat) : Int)) (.int .u64 ((m2 ||| l2 : Nat) : Int)) (.int .u64 ((m3 ||| l3 : Nat) : Int))
    have HF : Hid (_ ∧ _) := ⟨hP, p2⟩
    clear hP p2 hB3 q2 q3
    go_wp2
    have hB9 := below9 HF.out.1 (B := w.heap.size + 1 + 1) (by omega) (.int .u64 ((f0 : Nat) : Int)) (.int .u64 ((f1 : Nat) : Int)) (.int .u64 ((f2 : Nat) : Int)) (.int .u64 ((f3 : Nat) : Int)) (.int .u64 ((m0 ||| l0 : Nat) : Int)) (.int .u64 ((m1 ||| l1 : Nat) : Int)) (.int .u64 ((m2 ||| l2 : Nat) : Int)) (.int .u64 ((m3 ||| l3 : Nat) : Int)) (.bool false)
    exact bodyPost_ret (results_cell_row rfl _ _ (w.heap.size + 1 + 1) _ _ (0, 0) _ rfl (set9 HF.out.2 (.int .u64 ((f0 : Nat) : Int)) (.int .u64 ((f1 : Nat) : Int)) (.int .u64 ((f2 : Nat) : Int)) (.int .u64 ((f3 : Nat) : Int)) (.int .u64 ((m0 ||| l0 : Nat) : Int)) (.int .u64 ((m1 ||| l1 : Nat) : Int)) (.int .u64 ((m2 ||| l2 : Nat) : Int)) (.int .u64 ((m3 ||| l3 : Nat) : Int)) (.bool false)) rfl rfl rfl) rfl ⟨rfl, HI.out.1.kept hB9 hl, HI.out.2.1.kept hB9, HI.out.2.2.trans (hB9.mono (by omega))⟩
  case true.false =>
    go_enter Tryz.func55, Tryz.ntmps55
    go_wp2_with fail
    rw [← hW0]
    have HW0 : Hid _ := hW0
    clear hW0
    go_wp2_with fail
    refine HLk.out.mono ?_
    rintro e1 w1 ⟨rfl, ho, hs, hB⟩
    have q0 := hs.row HR.out.1 (by omega)
    have q1 := hs.row HR.out.2.1 (by omega)
    have q2 := hs.row HR.out.2.2 (by omega)
    have hs1 : w.heap.size + 1 + 1 + 1 ≤ w1.heap.size := by have := hs.1; omega
    have hRd := HR0.out.linked hs hB ho (linkAll_ok HO.out HR0.out.okb _) (linkAll_len _ _ _)
    have HI : Hid (_ ∧ _ ∧ _) := ⟨hRd, ((Same.below HJ.out).trans hs).mono (T := fun k => k = gb) (fun _ _ e => e.elim False.elim id), (HJ.out.mono (by omega)).trans hB⟩
    clear hRd ho hs hB c0 c1 c2 c3 c4 c5 c6 c7 c8 d0 d1 d2 d3 d4 d5 d6 d7 d8
    obtain ⟨W2, hW2⟩ : ∃ W2, W2 = w1.alloc (.cells (c9 ((f0, f1, f2, f3), (m0, m1, m2, m3), false)) 118) := ⟨_, rfl⟩
    have hJ2 : Below w1.heap.size w1 W2 := by rw [hW2]; exact below1 _ _
    have hs2 : W2.heap.size = w1.heap.size + 1 := by rw [hW2]; simp
    have k0 := heap_keep hJ2 q0
    have k1 := heap_keep hJ2 q1
    have k2 := heap_keep hJ2 q2
    have k3 : W2.heap[w1.heap.size]? = some (.cells (c9 ((f0, f1, f2, f3), (m0, m1, m2, m3), false)) 118 (0, 0)) := by rw [hW2]; exact heap_alloc_new w1 _
    have HK : Hid (_ ∧ _ ∧ _ ∧ _ ∧ _) := ⟨hJ2, k0, k1, k2, k3⟩
    obtain ⟨⟨c0, c1, c2, c3, c4, c5, c6, c7, c8⟩, _⟩ := row9 q0
    obtain ⟨⟨d0, d1, d2, d3, d4, d5, d6, d7, d8⟩, _⟩ := row9 q1
    obtain ⟨_, x0, x1, x2, x3, x4, x5, x6, x7, x8⟩ := row9 q2
    have n0 : w1.heap.size ≠ w.heap.size := by omega
    have n1 : w1.heap.size ≠ w.heap.size + 1 := by omega
    have n2 : w1.heap.size ≠ w.heap.size + 1 + 1 := by omega
    have n3 := n0.symm
    have n4 := n1.symm
    have n5 := n2.symm
    have a8 := fun o => cell_kept (below1 w1 o) _ _ c8
    have b0 := fun o => cell_kept (below1 w1 o) _ _ d0
    have b1 := fun o => cell_kept (below1 w1 o) _ _ d1
    have b2 := fun o => cell_kept (below1 w1 o) _ _ d2
    have b3 := fun o => cell_kept (below1 w1 o) _ _ d3
    have b8 := fun o => cell_kept (below1 w1 o) _ _ d8
    have a4 := fun o => cell_kept (below1 w1 o) _ _ c4
    have a5 := fun o => cell_kept (below1 w1 o) _ _ c5
    have a6 := fun o => cell_kept (below1 w1 o) _ _ c6
    have a7 := fun o => cell_kept (below1 w1 o) _ _ c7
    clear q0 q1 q2 hJ2 k0 k1 k2 k3
    go_wp2_with fail
    rw [← hW2]
    have HW2 : Hid _ := hW2
    clear hW2 a4 a5 a6 a7 a8 b0 b1 b2 b3 b8 c0 c1 c2 c3 c4 c5 c6 c7 c8 d0 d1 d2 d3 d4 d5 d6 d7 d8 x0 x1 x2 x3 x4 x5 x6 x7 x8
    refine (HOr1.out W2).mono ?_
    rintro e2 w2 ⟨rfl, hB2⟩
    have q0 := heap_keep hB2 HK.out.2.1
    have q1 := heap_keep hB2 HK.out.2.2.1
    have q2 := heap_keep hB2 HK.out.2.2.2.1
    have q3 := heap_keep hB2 HK.out.2.2.2.2
    have hs3 : W2.heap.size ≤ w2.heap.size := hB2.size
    obtain ⟨⟨c0, c1, c2, c3, c4, c5, c6, c7, c8⟩, _⟩ := row9 q0
    obtain ⟨⟨d0, d1, d2, d3, d4, d5, d6, d7, d8⟩, _⟩ := row9 q1
    obtain ⟨⟨i0, i1, i2, i3, i4, i5, i6, i7, i8⟩, ⟨j0, j1, j2, j3, j4, j5, j6, j7, j8⟩⟩ := row9 q3
    obtain ⟨_, x0, x1, x2, x3, x4, x5, x6, x7, x8⟩ := row9 q2
    have hP := below4 (HK.out.1.mono (show w.heap.size ≤ w1.heap.size by omega) |>.trans (hB2.mono (by omega))) (g := w1.heap.size) (by omega) 0 1 2 3 (.int .u64 ((f0 ||| g0 : Nat) : Int)) (.int .u64 ((f1 ||| g1 : Nat) : Int)) (.int .u64 ((f2 ||| g2 : Nat) : Int)) (.int .u64 ((f3 ||| g3 : Nat) : Int))
    have p0 := other4 q0 n3 0 1 2 3 (.int .u64 ((f0 ||| g0 : Nat) : Int)) (.int .u64 ((f1 ||| g1 : Nat) : Int)) (.int .u64 ((f2 ||| g2 : Nat) : Int)) (.int .u64 ((f3 ||| g3 : Nat) : Int))
    have p2 := other4 q2 n5 0 1 2 3 (.int .u64 ((f0 ||| g0 : Nat) : Int)) (.int .u64 ((f1 ||| g1 : Nat) : Int)) (.int .u64 ((f2 ||| g2 : Nat) : Int)) (.int .u64 ((f3 ||| g3 : Nat) : Int))
    have p3 : ((((w2.setCell ⟨w1.heap.size, 0, none⟩ (.int .u64 ((f0 ||| g0 : Nat) : Int))).setCell ⟨w1.heap.size, 1, none⟩ (.int .u64 ((f1 ||| g1 : Nat) : Int))).setCell ⟨w1.heap.size, 2, none⟩ (.int .u64 ((f2 ||| g2 : Nat) : Int))).setCell ⟨w1.heap.size, 3, none⟩ (.int .u64 ((f3 ||| g3 : Nat) : Int))).heap[w1.heap.size]? = some (.cells (c9 ((f0 ||| g0, f1 ||| g1, f2 ||| g2, f3 ||| g3), (m0, m1, m2, m3), false)) 118 (0, 0)) := xset_row _ w1.heap.size 3 _ _ _ _ (xset_row _ w1.heap.size 2 _ _ _ _ (xset_row _ w1.heap.size 1 _ _ _ _ (xset_row w2 w1.heap.size 0 _ _ _ _ q3)))
    have HP : Hid (_ ∧ _ ∧ _ ∧ _) := ⟨hP, p0, p2, p3⟩
    clear hP p0 p2 p3 hB2 q0 q1 q2 q3
    have HF : Hid (_ ∧ _) := ⟨HP.out.1, HP.out.2.2.1⟩
    go_wp2
    have hB9 := below9 HF.out.1 (B := w.heap.size + 1 + 1) (by omega) (.int .u64 ((f0 ||| g0 : Nat) : Int)) (.int .u64 ((f1 ||| g1 : Nat) : Int)) (.int .u64 ((f2 ||| g2 : Nat) : Int)) (.int .u64 ((f3 ||| g3 : Nat) : Int)) (.int .u64 ((m0 : Nat) : Int)) (.int .u64 ((m1 : Nat) : Int)) (.int .u64 ((m2 : Nat) : Int)) (.int .u64 ((m3 : Nat) : Int)) (.bool false)
    exact bodyPost_ret (results_cell_row rfl _ _ (w.heap.size + 1 + 1) _ _ (0, 0) _ rfl (set9 HF.out.2 (.int .u64 ((f0 ||| g0 : Nat) : Int)) (.int .u64 ((f1 ||| g1 : Nat) : Int)) (.int .u64 ((f2 ||| g2 : Nat) : Int)) (.int .u64 ((f3 ||| g3 : Nat) : Int)) (.int .u64 ((m0 : Nat) : Int)) (.int .u64 ((m1 : Nat) : Int)) (.int .u64 ((m2 : Nat) : Int)) (.int .u64 ((m3 : Nat) : Int)) (.bool false)) rfl rfl rfl) rfl ⟨rfl, HI.out.1.kept hB9 hl, HI.out.2.1.kept hB9, HI.out.2.2.trans (hB9.mono (by omega))⟩
  case true.true =>
    go_enter Tryz.func55, Tryz.ntmps55
    go_wp2_with fail
    rw [← hW0]
    have HW0 : Hid _ := hW0
    clear hW0
    go_wp2_with fail
    refine HLk.out.mono ?_
    rintro e1 w1 ⟨rfl, ho, hs, hB⟩
    have q0 := hs.row HR.out.1 (by omega)
    have q1 := hs.row HR.out.2.1 (by omega)
    have q2 := hs.row HR.out.2.2 (by omega)
    have hs1 : w.heap.size + 1 + 1 + 1 ≤ w1.heap.size := by have := hs.1; omega
    have hRd := HR0.out.linked hs hB ho (linkAll_ok HO.out HR0.out.okb _) (linkAll_len _ _ _)
    have HI : Hid (_ ∧ _ ∧ _) := ⟨hRd, ((Same.below HJ.out).trans hs).mono (T := fun k => k = gb) (fun _ _ e => e.elim False.elim id), (HJ.out.mono (by omega)).trans hB⟩
    clear hRd ho hs hB c0 c1 c2 c3 c4 c5 c6 c7 c8 d0 d1 d2 d3 d4 d5 d6 d7 d8
    obtain ⟨W2, hW2⟩ : ∃ W2, W2 = w1.alloc (.cells (c9 ((f0, f1, f2, f3), (m0, m1, m2, m3), true)) 118) := ⟨_, rfl⟩
    have hJ2 : Below w1.heap.size w1 W2 := by rw [hW2]; exact below1 _ _
    have hs2 : W2.heap.size = w1.heap.size + 1 := by rw [hW2]; simp
    have k0 := heap_keep hJ2 q0
    have k1 := heap_keep hJ2 q1
    have k2 := heap_keep hJ2 q2
    have k3 : W2.heap[w1.heap.size]? = some (.cells (c9 ((f0, f1, f2, f3), (m0, m1, m2, m3), true)) 118 (0, 0)) := by rw [hW2]; exact heap_alloc_new w1 _
    have HK : Hid (_ ∧ _ ∧ _ ∧ _ ∧ _) := ⟨hJ2, k0, k1, k2, k3⟩
    obtain ⟨⟨c0, c1, c2, c3, c4, c5, c6, c7, c8⟩, _⟩ := row9 q0
    obtain ⟨⟨d0, d1, d2, d3, d4, d5, d6, d7, d8⟩, _⟩ := row9 q1
    obtain ⟨_, x0, x1, x2, x3, x4, x5, x6, x7, x8⟩ := row9 q2
    have n0 : w1.heap.size ≠ w.heap.size := by omega
    have n1 : w1.heap.size ≠ w.heap.size + 1 := by omega
    have n2 : w1.heap.size ≠ w.heap.size + 1 + 1 := by omega
    have n3 := n0.symm
    have n4 := n1.symm
    have n5 := n2.symm
    have a8 := fun o => cell_kept (below1 w1 o) _ _ c8
    have b0 := fun o => cell_kept (below1 w1 o) _ _ d0
    have b1 := fun o => cell_kept (below1 w1 o) _ _ d1
    have b2 := fun o => cell_kept (below1 w1 o) _ _ d2
    have b3 := fun o => cell_kept (below1 w1 o) _ _ d3
    have b8 := fun o => cell_kept (below1 w1 o) _ _ d8
    have a4 := fun o => cell_kept (below1 w1 o) _ _ c4
    have a5 := fun o => cell_kept (below1 w1 o) _ _ c5
    have a6 := fun o => cell_kept (below1 w1 o) _ _ c6
    have a7 := fun o => cell_kept (below1 w1 o) _ _ c7
    clear q0 q1 q2 hJ2 k0 k1 k2 k3
    go_wp2_with fail
    rw [← hW2]
    have HW2 : Hid _ := hW2
    clear hW2 a4 a5 a6 a7 a8 b0 b1 b2 b3 b8 c0 c1 c2 c3 c4 c5 c6 c7 c8 d0 d1 d2 d3 d4 d5 d6 d7 d8 x0 x1 x2 x3 x4 x5 x6 x7 x8
    refine (HOr1.out W2).mono ?_
    rintro e2 w2 ⟨rfl, hB2⟩
    have q0 := heap_keep hB2 HK.out.2.1
    have q1 := heap_keep hB2 HK.out.2.2.1
    have q2 := heap_keep hB2 HK.out.2.2.2.1
    have q3 := heap_keep hB2 HK.out.2.2.2.2
    have hs3 : W2.heap.size ≤ w2.heap.size := hB2.size
    obtain ⟨⟨c0, c1, c2, c3, c4, c5, c6, c7, c8⟩, _⟩ := row9 q0
    obtain ⟨⟨d0, d1, d2, d3, d4, d5, d6, d7, d8⟩, _⟩ := row9 q1
    obtain ⟨⟨i0, i1, i2, i3, i4, i5, i6, i7, i8⟩, ⟨j0, j1, j2, j3, j4, j5, j6, j7, j8⟩⟩ := row9 q3
    obtain ⟨_, x0, x1, x2, x3, x4, x5, x6, x7, x8⟩ := row9 q2
    have hP := below4 (HK.out.1.mono (show w.heap.size ≤ w1.heap.size by omega) |>.trans (hB2.mono (by omega))) (g := w1.heap.size) (by omega) 0 1 2 3 (.int .u64 ((f0 ||| g0 : Nat) : Int)) (.int .u64 ((f1 ||| g1 : Nat) : Int)) (.int .u64 ((f2 ||| g2 : Nat) : Int)) (.int .u64 ((f3 ||| g3 : Nat) : Int))
    have p0 := other4 q0 n3 0 1 2 3 (.int .u64 ((f0 ||| g0 : Nat) : Int)) (.int .u64 ((f1 ||| g1 : Nat) : Int)) (.int .u64 ((f2 ||| g2 : Nat) : Int)) (.int .u64 ((f3 ||| g3 : Nat) : Int))
    have p2 := other4 q2 n5 0 1 2 3 (.int .u64 ((f0 ||| g0 : Nat) : Int)) (.int .u64 ((f1 ||| g1 : Nat) : Int)) (.int .u64 ((f2 ||| g2 : Nat) : Int)) (.int .u64 ((f3 ||| g3 : Nat) : Int))
    have p3 : ((((w2.setCell ⟨w1.heap.size, 0, none⟩ (.int .u64 ((f0 ||| g0 : Nat) : Int))).setCell ⟨w1.heap.size, 1, none⟩ (.int .u64 ((f1 ||| g1 : Nat) : Int))).setCell ⟨w1.heap.size, 2, none⟩ (.int .u64 ((f2 ||| g2 : Nat) : Int))).setCell ⟨w1.heap.size, 3, none⟩ (.int .u64 ((f3 ||| g3 : Nat) : Int))).heap[w1.heap.size]? = some (.cells (c9 ((f0 ||| g0, f1 ||| g1, f2 ||| g2, f3 ||| g3), (m0, m1, m2, m3), true)) 118 (0, 0)) := xset_row _ w1.heap.size 3 _ _ _ _ (xset_row _ w1.heap.size 2 _ _ _ _ (xset_row _ w1.heap.size 1 _ _ _ _ (xset_row w2 w1.heap.size 0 _ _ _ _ q3)))
    have HP : Hid (_ ∧ _ ∧ _ ∧ _) := ⟨hP, p0, p2, p3⟩
    clear hP p0 p2 p3 hB2 q0 q1 q2 q3
    go_wp2_with fail
    clear c0 c1 c2 c3 c4 c5 c6 c7 c8 d0 d1 d2 d3 d4 d5 d6 d7 d8 i0 i1 i2 i3 i4 i5 i6 i7 i8 j0 j1 j2 j3 j4 j5 j6 j7 j8 x0 x1 x2 x3 x4 x5 x6 x7 x8
    refine (HOr2.out _).mono ?_
    rintro e3 w3 ⟨rfl, hB3⟩
    have q2 := heap_keep hB3 HP.out.2.2.1
    have q3 := heap_keep hB3 HP.out.2.2.2
    obtain ⟨⟨i0, i1, i2, i3, i4, i5, i6, i7, i8⟩, ⟨j0, j1, j2, j3, j4, j5, j6, j7, j8⟩⟩ := row9 q3
    obtain ⟨_, x0, x1, x2, x3, x4, x5, x6, x7, x8⟩ := row9 q2
    have hP := below4 (HP.out.1.trans (hB3.mono (by have := HP.out.1.size; omega))) (g := w1.heap.size) (by omega) 4 5 6 7 (.int .u64 ((m0 ||| l0 : Nat) : Int)) (.int .u64 ((m1 ||| l1 : Nat) : Int)) (.int .u64 ((m2 ||| l2 : Nat) : Int)) (.int .u64 ((m3 ||| l3 : Nat) : Int))
    have p2 := other4 q2 n5 4 5 6 7 (.int .u64 ((m0 ||| l0 : Nat) : Int)) (.int .u64 ((m1 ||| l1 : Nat) : Int)) (.int .u64 ((m2 ||| l2 : Nat) : Int)) (.int .u64 ((m3 ||| l3 : Nat) : Int))
    have HF : Hid (_ ∧ _) := ⟨hP, p2⟩
    clear hP p2 hB3 q2 q3
    go_wp2
    have hB9 := below9 HF.out.1 (B := w.heap.size + 1 + 1) (by omega) (.int .u64 ((f0 ||| g0 : Nat) : Int)) (.int .u64 ((f1 ||| g1 : Nat) : Int)) (.int .u64 ((f2 ||| g2 : Nat) : Int)) (.int .u64 ((f3 ||| g3 : Nat) : Int)) (.int .u64 ((m0 ||| l0 : Nat) : Int)) (.int .u64 ((m1 ||| l1 : Nat) : Int)) (.int .u64 ((m2 ||| l2 : Nat) : Int)) (.int .u64 ((m3 ||| l3 : Nat) : Int)) (.bool true)
    exact bodyPost_ret (results_cell_row rfl _ _ (w.heap.size + 1 + 1) _ _ (0, 0) _ rfl (set9 HF.out.2 (.int .u64 ((f0 ||| g0 : Nat) : Int)) (.int .u64 ((f1 ||| g1 : Nat) : Int)) (.int .u64 ((f2 ||| g2 : Nat) : Int)) (.int .u64 ((f3 ||| g3 : Nat) : Int)) (.int .u64 ((m0 ||| l0 : Nat) : Int)) (.int .u64 ((m1 ||| l1 : Nat) : Int)) (.int .u64 ((m2 ||| l2 : Nat) : Int)) (.int .u64 ((m3 ||| l3 : Nat) : Int)) (.bool true)) rfl rfl rfl) rfl ⟨rfl, HI.out.1.kept hB9 hl, HI.out.2.1.kept hB9, HI.out.2.2.trans (hB9.mono (by omega))⟩
end Go.Proofs.YtphjbbbnbmafnabGreatDoor.G
