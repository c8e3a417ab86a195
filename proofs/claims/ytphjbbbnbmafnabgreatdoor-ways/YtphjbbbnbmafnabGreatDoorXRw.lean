/-
  The reader's row: what stands one behind the other, with its stars.
-/
import Derived.Test.YtphjbbbnbmafnabGreatDoorXPi
namespace Go.Proofs.YtphjbbbnbmafnabGreatDoor.G
open Go.RowKit Go.Shelf Go.Proofs.YtphjbbbnbmafnabGreatDoor.RxM

abbrev e9 : Array Value := #[.int .u64 0, .int .u64 0, .int .u64 0, .int .u64 0, .int .u64 0, .int .u64 0, .int .u64 0, .int .u64 0, .bool true]
/-- how much of the text is left -/
def restLen (R : Nat) (w : World) : Nat := match w.cell? ⟨R, 0, none⟩ with | some (.string s) => s.size | _ => 0
theorem Rdr.left {w : World} {base R X : Nat} {s : ByteArray} {n : Nat} {uc : Bool} {gb cb gt ct : Nat} {ss ts : List S4} (h : Rdr w base R X s n uc gb cb gt ct ss ts) : restLen R w = s.size := by
  unfold restLen; rw [h.cells.1.1]
/-- what is known ahead of a piece: what was read so far, or nothing comes of it any more -/
def RowAl (n : Nat) (s : ByteArray) (uc : Bool) (s' : ByteArray) (uc' : Bool) (t : Rx) : Prop :=
  (uc' = uc ∧ ∃ q r p, codes s = q ++ codes s' ∧ RowTo n q r p ∧ t = ab r p ∧ (∀ l, codes s' = 42 :: l → p = none)) ∨ (uc' = true ∧ RowDead n (codes s))
/-- and behind one -/
def PieAl (n : Nat) (s : ByteArray) (uc : Bool) (s' : ByteArray) (uc' : Bool) (r t : Rx) : Prop :=
  (uc' = uc ∧ ∃ q, codes s = q ++ codes s' ∧ RowTo n q r (some t)) ∨ (uc' = true ∧ RowDead n (codes s))
theorem rowAl_start (n : Nat) (s : ByteArray) (uc : Bool) : RowAl n s uc s uc .eps := .inl ⟨rfl, [], .eps, none, rfl, rowTo_nil n, rfl, fun _ _ => rfl⟩
theorem RowAl.piece {n : Nat} {s s' s2 : ByteArray} {uc uc' uc2 : Bool} {t t2 : Rx} (h : RowAl n s uc s' uc' t) (h2 : (uc2 = uc' ∧ ∃ q, codes s' = q ++ codes s2 ∧ PieceTo n q t2) ∨ (uc2 = true ∧ PieceDead n (codes s'))) : PieAl n s uc s2 uc2 t t2 := by
  rcases h with ⟨h1, q, r, p, h3, h4, h5, _⟩ | ⟨h1, h3⟩
  · rcases h2 with ⟨e1, q2, e2, e3⟩ | ⟨e1, e2⟩
    · exact .inl ⟨e1.trans h1, q ++ q2, by rw [h3, e2, List.append_assoc], by rw [h5]; exact e3 q r p h4⟩
    · exact .inr ⟨e1, by rw [h3]; exact e2 q r p h4⟩
  · refine .inr ⟨?_, h3⟩
    rcases h2 with ⟨e1, _⟩ | ⟨e1, _⟩
    · exact e1.trans h1
    · exact e1
theorem PieAl.star {n : Nat} {s s' s2 : ByteArray} {uc uc' : Bool} {r t : Rx} (h : PieAl n s uc s' uc' r t) (hs : codes s' = 42 :: codes s2) : PieAl n s uc s2 uc' r (.star t) := by
  rcases h with ⟨h1, q, h3, h4⟩ | h1
  · exact .inl ⟨h1, q ++ [42], by rw [h3, hs]; simp, h4.star⟩
  · exact .inr h1
theorem PieAl.join {n : Nat} {s s' : ByteArray} {uc uc' : Bool} {r t : Rx} (h : PieAl n s uc s' uc' r t) (hs : ∀ l, codes s' ≠ 42 :: l) : RowAl n s uc s' uc' (.cat r t) := by
  rcases h with ⟨h1, q, h3, h4⟩ | h1
  · exact .inl ⟨h1, q, r, some t, h3, h4, rfl, fun l hl => absurd hl (hs l)⟩
  · exact .inr h1
/-- the row is at its end -/
theorem RowAl.stop {n : Nat} {s s' : ByteArray} {uc uc' : Bool} {t : Rx} (h : RowAl n s uc s' uc' t) (hn : NoPiece n (codes s')) : (uc' = uc ∧ ∃ q r p, codes s = q ++ codes s' ∧ RowTo n q r p ∧ t = ab r p ∧ StopR n (codes s') p) ∨ (uc' = true ∧ RowDead n (codes s)) := by
  rcases h with ⟨h1, q, r, p, h3, h4, h5, h6⟩ | h1
  · refine .inl ⟨h1, q, r, p, h3, h4, h5, ?_⟩
    cases e : codes s' with
    | nil => exact .inl (.inl rfl)
    | cons c l =>
      obtain ⟨n1, n2, n3⟩ := hn c l e
      by_cases c1 : c = 124
      · subst c1; exact .inr ⟨l, rfl⟩
      · by_cases c2 : c = 41
        · subst c2; exact .inl (.inr (.inl ⟨l, rfl⟩))
        · refine .inl (.inr (.inr ⟨c, l, rfl, c1, fun a r st => ?_⟩))
          by_cases c3 : c = 42
          · subst c3
            rw [h6 l e]
            exact step42_none n a r st
          · exact step_bad n c a r p st c1 c3 n1 c2 n2 n3
  · exact .inr h1
theorem lst_lt {P : P4} {t : Rx} {ss ts ss1 ts1 : List S4} (hl : Laid t ss ts ss1 ts1) (hp : IsPart P t ss.length) {p : Nat} (h : mem4 P.2.1 p = true) : p < ss1.length := by
  rw [hp.ls] at h
  have := lst_in _ _ _ h
  rw [hl.len]
  omega
set_option maxRecDepth 100000 in
set_option maxHeartbeats 16000000 in
theorem row_of {N : Nat} (HP : PieC N) : RowC N := by
  intro base R X s n uc gb cb gt ct ss ts w hN h
  have hl := h.lt
  have hbs := h.bs
  obtain ⟨W0, hW0⟩ : ∃ W0, W0 = (w.alloc (.cells z9 118)).alloc (.cells e9 118) := ⟨_, rfl⟩
  have hJ : Below w.heap.size w W0 := by rw [hW0]; exact xal (below1 _ _)
  have r0 : W0.heap[w.heap.size]? = some (.cells z9 118 (0, 0)) := by rw [hW0]; exact heap_keep (below1 _ _) (heap_alloc_new w _)
  have r1 : W0.heap[w.heap.size + 1]? = some (.cells e9 118 (0, 0)) := by
    rw [hW0]
    have := heap_alloc_new (w.alloc (.cells z9 118)) (.cells e9 118)
    rwa [World.size_alloc] at this
  have hs0 : w.heap.size + 1 < W0.heap.size := by rw [hW0]; simp
  have HR0 : Hid _ := h.below hJ
  have HJ : Hid _ := hJ
  have HI : Hid (PieC N) := HP
  have HX0 : Hid (_ ∧ _) := ⟨r0, r1⟩
  clear hJ h HP r0 r1
  go_enter Tryz.func83, Tryz.ntmps83
  go_wp2
  rw [← hW0]
  have HW0 : Hid _ := hW0
  clear hW0
  go_loopw [5] (fun _ wr => ∃ P t s' uc' g cap ss1 ts1, Hid (Rdr wr base R X s' n uc' g cap gt ct ss1 ts1 ∧ (g = gb ∨ w.heap.size + 1 < g) ∧ Laid t ss ts ss1 ts1 ∧ IsPart P t ss.length ∧ Same w wr (Four R X gb gt) ∧ Below base w wr ∧ wr.heap[w.heap.size]? = some (.cells z9 118 (0, 0)) ∧ wr.heap[w.heap.size + 1]? = some (.cells (c9 P) 118 (0, 0)) ∧ s'.size ≤ s.size ∧ RowAl n s uc s' uc' t ∧ w.heap.size + 1 < wr.heap.size)) (fun _ wr => restLen R wr)
  case atStart => exact ⟨(z4, z4, true), .eps, s, uc, gb, cb, ss, ts, HR0.out, .inl rfl, laid_eps ss ts, isPart_eps _, four_below HJ.out, HJ.out.mono (by omega), HX0.out.1, HX0.out.2, Nat.le_refl _, rowAl_start n s uc, hs0⟩
  case round =>
    obtain ⟨P, t, s', uc', g, cap, ss1, ts1, HS⟩ := hrel
    have HS2 : Hid (_ ∧ _ ∧ _ ∧ _ ∧ _ ∧ _ ∧ _ ∧ _ ∧ _ ∧ _ ∧ _) := HS.out
    clear HS
    have hsz := HS2.out.2.2.2.2.2.2.2.2.1
    have hg := HS2.out.2.1
    have hwr := HS2.out.2.2.2.2.2.2.2.2.2.2
    have hlr := HS2.out.1.lt
    go_wp2_with fail
    refine (HI.out base R X s' n uc' g cap gt ct ss1 ts1 wr (by omega) HS2.out.1).mono ?_
    rintro e w2 (⟨rfl, hB, hno⟩ | ⟨P2, t2, s2, uc2, rfl, ⟨ss2, ts2, ⟨g2, cap2, hg2, hR2⟩, hlaid, hpart, hsm, hbw⟩, hsz2, hpost⟩)
    · have q0 := heap_keep hB HS2.out.2.2.2.2.2.2.1
      have q1 := heap_keep hB HS2.out.2.2.2.2.2.2.2.1
      have hz2 := hB.size
      obtain ⟨W3, hW3⟩ : ∃ W3, W3 = w2.alloc (.cells z9 118) := ⟨_, rfl⟩
      have hJ3 : Below w2.heap.size w2 W3 := by rw [hW3]; exact below1 _ _
      have k0 := heap_keep hJ3 q0
      have k1 := heap_keep hJ3 q1
      have hBW : Below wr.heap.size wr W3 := chain hB hJ3
      have HK : Hid (_ ∧ _ ∧ _) := ⟨hBW, k0, hno⟩
      have y := fun o => row9 (heap_keep (below1 w2 o) q1)
      have y0 := fun o => (y o).1.1
      have y1 := fun o => (y o).1.2.1
      have y2 := fun o => (y o).1.2.2.1
      have y3 := fun o => (y o).1.2.2.2.1
      have y4 := fun o => (y o).1.2.2.2.2.1
      have y5 := fun o => (y o).1.2.2.2.2.2.1
      have y6 := fun o => (y o).1.2.2.2.2.2.2.1
      have y7 := fun o => (y o).1.2.2.2.2.2.2.2.1
      have y8 := fun o => (y o).1.2.2.2.2.2.2.2.2
      have x := fun o => row9 (heap_keep (below1 w2 o) q0)
      have x0 := fun o => (x o).2.1
      have x1 := fun o => (x o).2.2.1
      have x2 := fun o => (x o).2.2.2.1
      have x3 := fun o => (x o).2.2.2.2.1
      have x4 := fun o => (x o).2.2.2.2.2.1
      have x5 := fun o => (x o).2.2.2.2.2.2.1
      have x6 := fun o => (x o).2.2.2.2.2.2.2.1
      have x7 := fun o => (x o).2.2.2.2.2.2.2.2.1
      have x8 := fun o => (x o).2.2.2.2.2.2.2.2.2
      have v0 := fun o => (x o).1.1
      have v1 := fun o => (x o).1.2.1
      have v2 := fun o => (x o).1.2.2.1
      have v3 := fun o => (x o).1.2.2.2.1
      have v4 := fun o => (x o).1.2.2.2.2.1
      have v5 := fun o => (x o).1.2.2.2.2.2.1
      have v6 := fun o => (x o).1.2.2.2.2.2.2.1
      have v7 := fun o => (x o).1.2.2.2.2.2.2.2.1
      have v8 := fun o => (x o).1.2.2.2.2.2.2.2.2
      clear x y q0 q1 hB hno hJ3 k0 k1 hBW
      simp only [vp]
      go_wp2
      subst hW3
      have hB9 := below9 (HK.out.1.mono (show w.heap.size ≤ wr.heap.size by omega)) (B := w.heap.size) (by omega) (.int .u64 (P.1.1 : Int)) (.int .u64 (P.1.2.1 : Int)) (.int .u64 (P.1.2.2.1 : Int)) (.int .u64 (P.1.2.2.2 : Int)) (.int .u64 (P.2.1.1 : Int)) (.int .u64 (P.2.1.2.1 : Int)) (.int .u64 (P.2.1.2.2.1 : Int)) (.int .u64 (P.2.1.2.2.2 : Int)) (.bool P.2.2)
      refine bodyPost_ret (results_cell_row rfl _ _ w.heap.size _ _ (0, 0) _ rfl (set9 HK.out.2.1 _ _ _ _ _ _ _ _ _) rfl rfl rfl) rfl ⟨P, t, s', uc', rfl, ⟨ss1, ts1, ⟨g, cap, by omega, (HS2.out.1.below HK.out.1).same (same9 _ w.heap.size _ _ _ _ _ _ _ _ _) (below9 (Below.refl base _) (by omega) _ _ _ _ _ _ _ _ _) (fun k hk e => by rcases hk with hk | hk | hk | hk <;> omega)⟩, HS2.out.2.2.1, HS2.out.2.2.2.1, HS2.out.2.2.2.2.1.kept hB9, HS2.out.2.2.2.2.2.1.trans (hB9.mono (by omega))⟩, hsz, RowAl.stop HS2.out.2.2.2.2.2.2.2.2.2.1 HK.out.2.2⟩
    · have hgn : g2 = g ∨ wr.heap.size ≤ g2 := hg2
      have hg3 : g2 = gb ∨ w.heap.size + 1 < g2 := by omega
      have hg4 : g = gb ∨ w.heap.size ≤ g := by omega
      have q0 := hsm.row HS2.out.2.2.2.2.2.2.1 (fun e => by rcases e with e | e | e | e <;> omega)
      have q1 := hsm.row HS2.out.2.2.2.2.2.2.2.1 (fun e => by rcases e with e | e | e | e <;> omega)
      have hz2 := hsm.1
      have hl2 := hR2.lt
      obtain ⟨W3, hW3⟩ : ∃ W3, W3 = w2.alloc (.cells (c9 P2) 118) := ⟨_, rfl⟩
      have hJ3 : Below w2.heap.size w2 W3 := by rw [hW3]; exact below1 _ _
      have q4 : W3.heap[w2.heap.size]? = some (.cells (c9 P2) 118 (0, 0)) := by rw [hW3]; exact heap_alloc_new w2 _
      have hz3 : w2.heap.size < W3.heap.size := by rw [hW3]; simp
      have hal := RowAl.piece HS2.out.2.2.2.2.2.2.2.2.2.1 hpost
      have HK : Hid (_ ∧ _ ∧ _ ∧ _ ∧ _ ∧ _ ∧ _ ∧ _ ∧ _ ∧ _) := ⟨hR2.below hJ3, hlaid, hpart, four_trans (four_trans HS2.out.2.2.2.2.1 hsm hg4) (four_below (gb := g2) hJ3) (by omega), (HS2.out.2.2.2.2.2.1.trans hbw).trans (hJ3.mono (by omega)), heap_keep hJ3 q0, heap_keep hJ3 q1, q4, hsz2, hal⟩
      clear hR2 hlaid hpart hsm hbw hpost q0 q1 q4 hal hJ3
      simp only [vp]
      go_wp2
      rw [← hW3]
      have HW3 : Hid _ := hW3
      clear hW3
      go_loopw [16] (fun _ wi => ∃ P2 t2 s2 ss2, Hid (Rdr wi base R X s2 n uc2 g2 cap2 gt ct ss2 ts2 ∧ Laid t2 ss1 ts1 ss2 ts2 ∧ IsPart P2 t2 ss1.length ∧ Same w wi (Four R X gb gt) ∧ Below base w wi ∧ wi.heap[w.heap.size]? = some (.cells z9 118 (0, 0)) ∧ wi.heap[w.heap.size + 1]? = some (.cells (c9 P) 118 (0, 0)) ∧ wi.heap[w2.heap.size]? = some (.cells (c9 P2) 118 (0, 0)) ∧ s2.size < s'.size ∧ PieAl n s uc s2 uc2 t t2 ∧ w2.heap.size < wi.heap.size)) (fun _ wi => restLen R wi)
      case atStart => exact ⟨P2, t2, s2, ss2, HK.out.1, HK.out.2.1, HK.out.2.2.1, HK.out.2.2.2.1, HK.out.2.2.2.2.1, HK.out.2.2.2.2.2.1, HK.out.2.2.2.2.2.2.1, HK.out.2.2.2.2.2.2.2.1, HK.out.2.2.2.2.2.2.2.2.1, HK.out.2.2.2.2.2.2.2.2.2, hz3⟩
      case round =>
        obtain ⟨P2, t2, s2, ss2, HU⟩ := hrel
        have HV : Hid (_ ∧ _ ∧ _ ∧ _ ∧ _ ∧ _ ∧ _ ∧ _ ∧ _ ∧ _ ∧ _) := HU.out
        clear HU
        have hv2 := HV.out.2.2.2.2.2.2.2.2.1
        have hvs := HV.out.2.2.2.2.2.2.2.2.2.2
        have HT : Hid (Calls Tryz.prog 84 #[.pointer (some ⟨R, 0, none⟩), .int .u8 42] wr _) := take_any R 42 s2 wr HV.out.1.cells.1.1 HV.out.1.cells.2.2.1.1
        go_wp2_with fail
        refine HT.out.mono ?_
        rintro e w4 (⟨s3, hc3, hsz3, rfl, hw4⟩ | ⟨hc3, rfl, hw4⟩)
        · have hR4 : Rdr w4 base R X s3 n uc2 g2 cap2 gt ct ss2 ts2 := by rw [hw4]; exact HV.out.1.rest s3 (by omega)
          have hS4 : Same wr w4 (Four R X g2 gt) := by rw [hw4]; exact four_set wr _
          have hB4 : Below base wr w4 := by rw [hw4]; exact (Below.refl base wr).setCell (p := ⟨R, 0, none⟩) hbs.2.1 _
          have k0 := hS4.row HV.out.2.2.2.2.2.1 (fun e => by rcases e with e | e | e | e <;> omega)
          have k1 := hS4.row HV.out.2.2.2.2.2.2.1 (fun e => by rcases e with e | e | e | e <;> omega)
          have k4 := hS4.row HV.out.2.2.2.2.2.2.2.1 (fun e => by rcases e with e | e | e | e <;> omega)
          have hz4 := hS4.1
          have hS5 := four_trans HV.out.2.2.2.1 hS4 (by omega)
          have hB5 := HV.out.2.2.2.2.1.trans hB4
          have HSt : Hid (Calls Tryz.prog 108 #[.pointer (some ⟨R, 0, none⟩), .agg (c9 P2)] w4 _) := starred_any base R X s3 n uc2 g2 cap2 gt ct ss2 ts2 P2 HV.out.2.2.1.ok1 HV.out.2.2.1.ok2 w4 hR4 (fun p hp => lst_lt HV.out.2.1 HV.out.2.2.1 hp)
          have HA : Hid (_ ∧ _ ∧ _ ∧ _ ∧ _) := ⟨k0, k1, k4, hS5, hB5⟩
          have HC3 : Hid _ := hc3
          obtain ⟨⟨d0, d1, d2, d3, d4, d5, d6, d7, d8⟩, _⟩ := row9 k4
          clear hw4 hR4 hS4 hB4 k0 k1 k4 hS5 hB5 hc3
          go_wp2_with fail
          refine HSt.out.mono ?_
          rintro e w5 ⟨rfl, hR5, hS5, hB5⟩
          have hS6 : Same w4 w5 (Four R X g2 gt) := hS5.mono fun k _ e => .inr (.inr (.inl e))
          have k0 := hS6.row HA.out.1 (fun e => by rcases e with e | e | e | e <;> omega)
          have k1 := hS6.row HA.out.2.1 (fun e => by rcases e with e | e | e | e <;> omega)
          have k4 := hS6.row HA.out.2.2.1 (fun e => by rcases e with e | e | e | e <;> omega)
          have hz5 := hS6.1
          have hs9 := same9 w5 w2.heap.size (.int .u64 (P2.1.1 : Int)) (.int .u64 (P2.1.2.1 : Int)) (.int .u64 (P2.1.2.2.1 : Int)) (.int .u64 (P2.1.2.2.2 : Int)) (.int .u64 (P2.2.1.1 : Int)) (.int .u64 (P2.2.1.2.1 : Int)) (.int .u64 (P2.2.1.2.2.1 : Int)) (.int .u64 (P2.2.1.2.2.2 : Int)) (.bool true)
          have hB9 := below9 (Below.refl w.heap.size w5) (B := w2.heap.size) (by omega) (.int .u64 (P2.1.1 : Int)) (.int .u64 (P2.1.2.1 : Int)) (.int .u64 (P2.1.2.2.1 : Int)) (.int .u64 (P2.1.2.2.2 : Int)) (.int .u64 (P2.2.1.1 : Int)) (.int .u64 (P2.2.1.2.1 : Int)) (.int .u64 (P2.2.1.2.2.1 : Int)) (.int .u64 (P2.2.1.2.2.2 : Int)) (.bool true)
          have n4 := set9 k4 (.int .u64 (P2.1.1 : Int)) (.int .u64 (P2.1.2.1 : Int)) (.int .u64 (P2.1.2.2.1 : Int)) (.int .u64 (P2.1.2.2.2 : Int)) (.int .u64 (P2.2.1.1 : Int)) (.int .u64 (P2.2.1.2.1 : Int)) (.int .u64 (P2.2.1.2.2.1 : Int)) (.int .u64 (P2.2.1.2.2.2 : Int)) (.bool true)
          have hR9 := hR5.same hs9 (hB9.mono (by omega)) (fun k hk e => by rcases hk with hk | hk | hk | hk <;> omega)
          have HN : Hid (_ ∧ _ ∧ _ ∧ _ ∧ _ ∧ _ ∧ _ ∧ _ ∧ _ ∧ _ ∧ _) := ⟨hR9, HV.out.2.1.star HV.out.2.2.1, HV.out.2.2.1.star, (four_trans HA.out.2.2.2.1 hS6 (by omega)).kept hB9, (HA.out.2.2.2.2.trans hB5).trans (hB9.mono (by omega)), hs9.row k0 (by omega), hs9.row k1 (by omega), n4, (by omega : s3.size < s'.size), HV.out.2.2.2.2.2.2.2.2.2.1.star HC3.out, Nat.lt_of_lt_of_le (by omega : w2.heap.size < w5.heap.size) hs9.1⟩
          obtain ⟨_, t0, t1, t2, t3, t4, t5, t6, t7, t8⟩ := row9 k4
          have HM : Hid (_ ∧ _) := ⟨hR9.left, HV.out.1.left⟩
          clear hR5 hS5 hB5 hS6 k0 k1 k4 hs9 hB9 n4 hR9 d0 d1 d2 d3 d4 d5 d6 d7 d8
          simp only [vp, star4]
          go_wp2
          go_roundw
          case rel => exact ⟨_, _, _, _, HN.out⟩
          case measure =>
            rw [HM.out.2]
            exact Nat.lt_of_le_of_lt (Nat.le_of_eq HM.out.1) (by omega)
        · subst hw4
          have HJn : Hid (Calls Tryz.prog 55 #[.pointer (some ⟨R, 0, none⟩), .agg (c9 P), .agg (c9 P2)] w4 _) := joined_any base R X s2 n uc2 g2 cap2 gt ct ss2 ts2 P P2 HS2.out.2.2.2.1.ok1 HS2.out.2.2.2.1.ok2 HV.out.2.2.1.ok1 HV.out.2.2.1.ok2 w4 HV.out.1 (fun p hp => by have := lst_lt HS2.out.2.2.1 HS2.out.2.2.2.1 hp; have := HV.out.2.1.len; omega)
          have HC3 : Hid _ := hc3
          obtain ⟨⟨c0, c1, c2, c3, c4, c5, c6, c7, c8⟩, _⟩ := row9 HV.out.2.2.2.2.2.2.1
          obtain ⟨⟨d0, d1, d2, d3, d4, d5, d6, d7, d8⟩, _⟩ := row9 HV.out.2.2.2.2.2.2.2.1
          clear hc3
          go_wp2_with fail
          refine HJn.out.mono ?_
          rintro e w5 ⟨rfl, hR5, hS5, hB5⟩
          have hS6 : Same w4 w5 (Four R X g2 gt) := hS5.mono fun k _ e => .inr (.inr (.inl e))
          have k0 := hS6.row HV.out.2.2.2.2.2.1 (fun e => by rcases e with e | e | e | e <;> omega)
          have k1 := hS6.row HV.out.2.2.2.2.2.2.1 (fun e => by rcases e with e | e | e | e <;> omega)
          have hz5 := hS6.1
          have hlc := HS2.out.2.2.1.cat HV.out.2.1 HS2.out.2.2.2.1 HV.out.2.2.1
          have hpc := HS2.out.2.2.2.1.cat (by rw [← HS2.out.2.2.1.len]; exact HV.out.2.2.1)
          obtain ⟨J, hJe⟩ : ∃ J, join4 P P2 = J := ⟨_, rfl⟩
          rw [hJe] at hpc ⊢
          have hs9 := same9 w5 (w.heap.size + 1) (.int .u64 (J.1.1 : Int)) (.int .u64 (J.1.2.1 : Int)) (.int .u64 (J.1.2.2.1 : Int)) (.int .u64 (J.1.2.2.2 : Int)) (.int .u64 (J.2.1.1 : Int)) (.int .u64 (J.2.1.2.1 : Int)) (.int .u64 (J.2.1.2.2.1 : Int)) (.int .u64 (J.2.1.2.2.2 : Int)) (.bool J.2.2)
          have hB9 := below9 (Below.refl w.heap.size w5) (B := w.heap.size + 1) (by omega) (.int .u64 (J.1.1 : Int)) (.int .u64 (J.1.2.1 : Int)) (.int .u64 (J.1.2.2.1 : Int)) (.int .u64 (J.1.2.2.2 : Int)) (.int .u64 (J.2.1.1 : Int)) (.int .u64 (J.2.1.2.1 : Int)) (.int .u64 (J.2.1.2.2.1 : Int)) (.int .u64 (J.2.1.2.2.2 : Int)) (.bool J.2.2)
          have n1 := set9 k1 (.int .u64 (J.1.1 : Int)) (.int .u64 (J.1.2.1 : Int)) (.int .u64 (J.1.2.2.1 : Int)) (.int .u64 (J.1.2.2.2 : Int)) (.int .u64 (J.2.1.1 : Int)) (.int .u64 (J.2.1.2.1 : Int)) (.int .u64 (J.2.1.2.2.1 : Int)) (.int .u64 (J.2.1.2.2.2 : Int)) (.bool J.2.2)
          have hR9 := hR5.same hs9 (hB9.mono (by omega)) (fun k hk e => by rcases hk with hk | hk | hk | hk <;> omega)
          have HN : Hid (_ ∧ _ ∧ _ ∧ _ ∧ _ ∧ _ ∧ _ ∧ _ ∧ _ ∧ _ ∧ _) := ⟨hR9, hg3, hlc, hpc, (four_trans HV.out.2.2.2.1 hS6 (by omega)).kept hB9, (HV.out.2.2.2.2.1.trans hB5).trans (hB9.mono (by omega)), hs9.row k0 (by omega), n1, (by omega : s2.size ≤ s.size), HV.out.2.2.2.2.2.2.2.2.2.1.join HC3.out, Nat.lt_of_lt_of_le (by omega : w.heap.size + 1 < w5.heap.size) hs9.1⟩
          obtain ⟨_, t0, t1, t2, t3, t4, t5, t6, t7, t8⟩ := row9 k1
          have HM : Hid (_ ∧ _) := ⟨hR9.left, HS2.out.1.left⟩
          clear hR5 hS5 hB5 hS6 k0 k1 hs9 hB9 n1 hR9 hlc hpc c0 c1 c2 c3 c4 c5 c6 c7 c8 d0 d1 d2 d3 d4 d5 d6 d7 d8
          simp only [vp]
          go_wp2
          go_roundw
          case rel => exact ⟨_, _, _, _, _, _, _, _, HN.out⟩
          case measure =>
            rw [HM.out.2]
            exact Nat.lt_of_le_of_lt (Nat.le_of_eq HM.out.1) (by omega)
end Go.Proofs.YtphjbbbnbmafnabGreatDoor.G
