/-
  The reader's choice: rows with bars between; that choice, row and piece keep their word for all texts.
-/
import Derived.Test.YtphjbbbnbmafnabGreatDoorXRw
import Derived.Test.YtphjbbbnbmafnabGreatDoorXQt
namespace Go.Proofs.YtphjbbbnbmafnabGreatDoor.G
open Go.RowKit Go.Shelf Go.Proofs.YtphjbbbnbmafnabGreatDoor.RxM

attribute [local go_sem] Oper.semAt_some
/-- what is known ahead of a bar -/
def ChoAl (n : Nat) (s : ByteArray) (uc : Bool) (s' : ByteArray) (uc' : Bool) (t : Rx) : Prop :=
  (uc' = uc ∧ ∃ q f, codes s = q ++ codes s' ∧ ChoTo n q f ∧ t = fin f ∧ StopR n (codes s') f.2.2) ∨ (uc' = true ∧ ChoDead n (codes s))
theorem choAl_start {n : Nat} {s s' : ByteArray} {uc uc' : Bool} {t : Rx} (h : (uc' = uc ∧ ∃ q r p, codes s = q ++ codes s' ∧ RowTo n q r p ∧ t = ab r p ∧ StopR n (codes s') p) ∨ (uc' = true ∧ RowDead n (codes s))) : ChoAl n s uc s' uc' (.alt .void t) := by
  rcases h with ⟨h1, q, r, p, h3, h4, h5, h6⟩ | ⟨h1, h2⟩
  · exact .inl ⟨h1, q, (.void, r, p), h3, choTo_row h4, by rw [h5]; rfl, h6⟩
  · exact .inr ⟨h1, choDead_row h2⟩
theorem ChoAl.bar {n : Nat} {s s1 s2 s3 : ByteArray} {uc uc1 uc3 : Bool} {t t2 : Rx} (h : ChoAl n s uc s1 uc1 t) (hb : codes s1 = 124 :: codes s2) (h2 : (uc3 = uc1 ∧ ∃ q r p, codes s2 = q ++ codes s3 ∧ RowTo n q r p ∧ t2 = ab r p ∧ StopR n (codes s3) p) ∨ (uc3 = true ∧ RowDead n (codes s2))) : ChoAl n s uc s3 uc3 (.alt t t2) := by
  rcases h with ⟨h1, q, f, h3, h4, h5, h6⟩ | ⟨h1, h3⟩
  · rcases h2 with ⟨e1, q2, r, p, e2, e3, e4, e5⟩ | ⟨e1, e2⟩
    · exact .inl ⟨e1.trans h1, q ++ 124 :: q2, (fin f, r, p), by rw [h3, hb, e2]; simp, h4.row e3, by rw [h5, e4]; rfl, e5⟩
    · exact .inr ⟨e1, by rw [h3, hb]; exact h4.dead e2⟩
  · refine .inr ⟨?_, h3⟩
    rcases h2 with ⟨e1, _⟩ | ⟨e1, _⟩
    · exact e1.trans h1
    · exact e1
theorem ChoAl.stop {n : Nat} {s s' : ByteArray} {uc uc' : Bool} {t : Rx} (h : ChoAl n s uc s' uc' t) (hb : ∀ l, codes s' ≠ 124 :: l) : (uc' = uc ∧ ∃ q f, codes s = q ++ codes s' ∧ ChoTo n q f ∧ t = fin f ∧ Stop n (codes s') f.2.2) ∨ (uc' = true ∧ ChoDead n (codes s)) := by
  rcases h with ⟨h1, q, f, h3, h4, h5, h6⟩ | h1
  · refine .inl ⟨h1, q, f, h3, h4, h5, ?_⟩
    rcases h6 with h6 | ⟨l, h6⟩
    · exact h6
    · exact absurd h6 (hb l)
  · exact .inr h1
set_option maxRecDepth 100000 in
set_option maxHeartbeats 16000000 in
theorem choice_of {N : Nat} (HP : RowC N) : ChoC N := by
  intro base R X s n uc gb cb gt ct ss ts w hN h
  have hl := h.lt
  have hbs := h.bs
  obtain ⟨W0, hW0⟩ : ∃ W0, W0 = w.alloc (.cells z9 118) := ⟨_, rfl⟩
  have hJ : Below w.heap.size w W0 := by rw [hW0]; exact below1 _ _
  have r0 : W0.heap[w.heap.size]? = some (.cells z9 118 (0, 0)) := by rw [hW0]; exact heap_alloc_new w _
  have hs0 : w.heap.size < W0.heap.size := by rw [hW0]; simp
  have HR0 : Hid _ := h.below hJ
  have HJ : Hid _ := hJ
  have HI : Hid (RowC N) := HP
  have HX0 : Hid _ := r0
  clear hJ h HP r0
  go_enter Tryz.func53, Tryz.ntmps53
  go_wp2_with fail
  rw [← hW0]
  have HW0 : Hid _ := hW0
  clear hW0
  refine (HI.out base R X s n uc gb cb gt ct ss ts W0 (by omega) HR0.out).mono ?_
  rintro e w1 ⟨P, t, s1, uc1, rfl, ⟨ss1, ts1, ⟨g, cap, hg, hR1⟩, hlaid, hpart, hsm, hbw⟩, hsz1, hpost⟩
  have hz1 := hsm.1
  have hl1 := hR1.lt
  have q0 := hsm.row HX0.out (fun e => by rcases e with e | e | e | e <;> omega)
  obtain ⟨W2, hW2⟩ : ∃ W2, W2 = w1.alloc (.cells (c9 P) 118) := ⟨_, rfl⟩
  have hJ2 : Below w1.heap.size w1 W2 := by rw [hW2]; exact below1 _ _
  have q1 : W2.heap[w1.heap.size]? = some (.cells (c9 P) 118 (0, 0)) := by rw [hW2]; exact heap_alloc_new w1 _
  have hz2 : w1.heap.size < W2.heap.size := by rw [hW2]; simp
  have HK : Hid (_ ∧ _ ∧ _ ∧ _ ∧ _ ∧ _ ∧ _ ∧ _) := ⟨hR1.below hJ2, hlaid.void, hpart.void, four_trans (four_trans (four_below (gb := gb) HJ.out) hsm (.inl rfl)) (four_below (gb := g) hJ2) (by omega), ((HJ.out.mono (by omega)).trans hbw).trans (hJ2.mono (by omega)), heap_keep hJ2 q0, q1, choAl_start hpost⟩
  clear hR1 hlaid hpart hsm hbw hpost q0 q1 hJ2
  simp only [vp]
  go_wp2
  rw [← hW2]
  have HW2 : Hid _ := hW2
  clear hW2
  go_loopw [8] (fun _ wr => ∃ P t s' uc' g cap ss1 ts1, Hid (Rdr wr base R X s' n uc' g cap gt ct ss1 ts1 ∧ (g = gb ∨ w.heap.size ≤ g) ∧ g ≠ w.heap.size ∧ g ≠ w1.heap.size ∧ Laid t ss ts ss1 ts1 ∧ IsPart P t ss.length ∧ Same w wr (Four R X gb gt) ∧ Below base w wr ∧ wr.heap[w.heap.size]? = some (.cells z9 118 (0, 0)) ∧ wr.heap[w1.heap.size]? = some (.cells (c9 P) 118 (0, 0)) ∧ s'.size ≤ s.size ∧ ChoAl n s uc s' uc' t ∧ w1.heap.size < wr.heap.size)) (fun _ wr => restLen R wr)
  case atStart => exact ⟨P, _, s1, uc1, g, cap, ss1, ts1, HK.out.1, by omega, by omega, by omega, HK.out.2.1, HK.out.2.2.1, HK.out.2.2.2.1, HK.out.2.2.2.2.1, HK.out.2.2.2.2.2.1, HK.out.2.2.2.2.2.2.1, hsz1, HK.out.2.2.2.2.2.2.2, hz2⟩
  case round =>
    obtain ⟨P, t, s', uc', g, cap, ss1, ts1, HS⟩ := hrel
    have HS2 : Hid (_ ∧ _ ∧ _ ∧ _ ∧ _ ∧ _ ∧ _ ∧ _ ∧ _ ∧ _ ∧ _ ∧ _ ∧ _) := HS.out
    clear HS
    have hg1 := HS2.out.2.1
    have hg2 := HS2.out.2.2.1
    have hg3 := HS2.out.2.2.2.1
    have hsz := HS2.out.2.2.2.2.2.2.2.2.2.2.1
    have hwr := HS2.out.2.2.2.2.2.2.2.2.2.2.2.2
    have hlr := HS2.out.1.lt
    have HT : Hid (Calls Tryz.prog 84 #[.pointer (some ⟨R, 0, none⟩), .int .u8 124] wr _) := take_any R 124 s' wr HS2.out.1.cells.1.1 HS2.out.1.cells.2.2.1.1
    go_wp2_with fail
    refine HT.out.mono ?_
    rintro e w4 (⟨s2, hc2, hsz2, rfl, hw4⟩ | ⟨hc2, rfl, hw4⟩)
    · have hR4 : Rdr w4 base R X s2 n uc' g cap gt ct ss1 ts1 := by rw [hw4]; exact HS2.out.1.rest s2 (by omega)
      have hS4 : Same wr w4 (Four R X g gt) := by rw [hw4]; exact four_set wr _
      have hB4 : Below base wr w4 := by rw [hw4]; exact (Below.refl base wr).setCell (p := ⟨R, 0, none⟩) hbs.2.1 _
      have k0 := hS4.row HS2.out.2.2.2.2.2.2.2.2.1 (fun e => by rcases e with e | e | e | e <;> omega)
      have k1 := hS4.row HS2.out.2.2.2.2.2.2.2.2.2.1 (fun e => by rcases e with e | e | e | e <;> omega)
      have hz4 := hS4.1
      have HA : Hid (_ ∧ _ ∧ _ ∧ _ ∧ _ ∧ _) := ⟨hR4, k0, k1, four_trans HS2.out.2.2.2.2.2.2.1 hS4 hg1, HS2.out.2.2.2.2.2.2.2.1.trans hB4, hc2⟩
      clear hw4 hR4 hS4 hB4 k0 k1 hc2
      go_wp2_with fail
      refine (HI.out base R X s2 n uc' g cap gt ct ss1 ts1 w4 (by omega) HA.out.1).mono ?_
      rintro e w5 ⟨P2, t2, s3, uc3, rfl, ⟨ss2, ts2, ⟨g2, cap2, hgg, hR5⟩, hlaid, hpart, hsm, hbw⟩, hsz3, hpost⟩
      have hz5 := hsm.1
      have hl5 := hR5.lt
      have q0 := hsm.row HA.out.2.1 (fun e => by rcases e with e | e | e | e <;> omega)
      have q1 := hsm.row HA.out.2.2.1 (fun e => by rcases e with e | e | e | e <;> omega)
      obtain ⟨W6, hW6⟩ : ∃ W6, W6 = w5.alloc (.cells (c9 P2) 118) := ⟨_, rfl⟩
      have hJ6 : Below w5.heap.size w5 W6 := by rw [hW6]; exact below1 _ _
      have q4 : W6.heap[w5.heap.size]? = some (.cells (c9 P2) 118 (0, 0)) := by rw [hW6]; exact heap_alloc_new w5 _
      have hz6 : w5.heap.size < W6.heap.size := by rw [hW6]; simp
      have k0 := heap_keep hJ6 q0
      have k1 := heap_keep hJ6 q1
      have hpa := HS2.out.2.2.2.2.2.1
      have HL : Hid (_ ∧ _ ∧ _ ∧ _ ∧ _ ∧ _ ∧ _ ∧ _) := ⟨hR5.below hJ6, HS2.out.2.2.2.2.1.alt hlaid, hpa.alt (by rw [← HS2.out.2.2.2.2.1.len]; exact hpart), four_trans (four_trans HA.out.2.2.2.1 hsm hg1) (four_below (gb := g2) hJ6) (by omega), (HA.out.2.2.2.2.1.trans hbw).trans (hJ6.mono (by omega)), k0, k1, HS2.out.2.2.2.2.2.2.2.2.2.2.2.1.bar HA.out.2.2.2.2.2 hpost⟩
      have ha1 := hpa.ok1
      have ha2 := hpa.ok2
      have hb1 := hpart.ok1
      have hb2 := hpart.ok2
      obtain ⟨⟨f0, f1, f2, f3⟩, ⟨l0, l1, l2, l3⟩, e⟩ := P
      obtain ⟨⟨g0, g1, g2', g3'⟩, ⟨m0, m1, m2, m3⟩, f⟩ := P2
      obtain ⟨⟨c0, c1, c2, c3, c4, c5, c6, c7, c8⟩, z⟩ := row9 k1
      obtain ⟨⟨d0, d1, d2, d3, d4, d5, d6, d7, d8⟩, _⟩ := row9 q4
      have HOr1 : Hid (∀ W, Calls Tryz.prog 85 _ W _) := fun W => setor_any f0 f1 f2 f3 g0 g1 g2' g3' ha1.1 ha1.2.1 ha1.2.2.1 ha1.2.2.2 hb1.1 hb1.2.1 hb1.2.2.1 hb1.2.2.2 W
      have HOr2 : Hid (∀ W, Calls Tryz.prog 85 _ W _) := fun W => setor_any l0 l1 l2 l3 m0 m1 m2 m3 ha2.1 ha2.2.1 ha2.2.2.1 ha2.2.2.2 hb2.1 hb2.2.1 hb2.2.2.1 hb2.2.2.2 W
      clear hR5 hlaid hpart hsm hbw hpost q0 q1 q4 k0 k1 hJ6 hpa ha1 ha2 hb1 hb2 z
      simp only [vp]
      have y0 := fun u => ext_cell c0 u
      have y1 := fun u => ext_cell c1 u
      have y2 := fun u => ext_cell c2 u
      have y3 := fun u => ext_cell c3 u
      have y4 := fun u => ext_cell c4 u
      have y5 := fun u => ext_cell c5 u
      have y6 := fun u => ext_cell c6 u
      have y7 := fun u => ext_cell c7 u
      have y8 := fun u => ext_cell c8 u
      have x0 := fun u => ext_cell d0 u
      have x1 := fun u => ext_cell d1 u
      have x2 := fun u => ext_cell d2 u
      have x3 := fun u => ext_cell d3 u
      have x4 := fun u => ext_cell d4 u
      have x5 := fun u => ext_cell d5 u
      have x6 := fun u => ext_cell d6 u
      have x7 := fun u => ext_cell d7 u
      have x8 := fun u => ext_cell d8 u
      clear c0 c1 c2 c3 c4 c5 c6 c7 c8 d0 d1 d2 d3 d4 d5 d6 d7 d8
      go_upto_region 4 with fail
      rw [← hW6]
      have HW6 : Hid _ := hW6
      clear hW6
      cases e
      · refine region_plain_lastG (n := 9) rfl (by kernel_rfl) (by kernel_rfl) (by kernel_rfl) ?_
        simp only [List.dropLast]
        repeat (gi_big_quiet_step (fail))
        refine wpQuietIn_step (by intros; intro; intros; trivial) (fun K hK => ?_)
        rw [if_pos (show Region.wanted _ _ = true from rfl)]
        gi_big_quiet_op
        apply Exists.intro
        refine ⟨fun u => ?_, ?_⟩
        · first
            | (refine ⟨fun h => by cases h, (callsIn_wide.2 (HOr1.out _)).mono ?_⟩; rintro r w1 ⟨rfl, hB⟩; exact ⟨rfl, w1, ext_of (chain (ext_below _ _) hB)⟩)
            | (refine ⟨trivial, (callsIn_wide.2 (HOr1.out _)).mono ?_⟩; rintro r w1 ⟨rfl, hB⟩; exact ⟨rfl, w1, ext_of (chain (ext_below _ _) hB)⟩)
            | (refine (callsIn_wide.2 (HOr1.out _)).mono ?_; rintro r w1 ⟨rfl, hB⟩; exact ⟨rfl, w1, ext_of (chain (ext_below _ _) hB)⟩)
        refine hK _ ?_
        clear hK K
        repeat (gi_big_quiet_step (fail))
        refine wpQuietIn_step (by intros; intro; intros; trivial) (fun K hK => ?_)
        rw [if_pos (show Region.wanted _ _ = true from rfl)]
        gi_big_quiet_op
        apply Exists.intro
        refine ⟨fun u => ?_, ?_⟩
        · first
            | (refine ⟨fun h => by cases h, (callsIn_wide.2 (HOr2.out _)).mono ?_⟩; rintro r w1 ⟨rfl, hB⟩; exact ⟨rfl, w1, ext_of (chain (ext_below _ _) hB)⟩)
            | (refine ⟨trivial, (callsIn_wide.2 (HOr2.out _)).mono ?_⟩; rintro r w1 ⟨rfl, hB⟩; exact ⟨rfl, w1, ext_of (chain (ext_below _ _) hB)⟩)
            | (refine (callsIn_wide.2 (HOr2.out _)).mono ?_; rintro r w1 ⟨rfl, hB⟩; exact ⟨rfl, w1, ext_of (chain (ext_below _ _) hB)⟩)
        refine hK _ ?_
        clear hK K
        repeat (gi_big_quiet_step (fail))
        refine wpQuietIn_nil ?_
        rintro wx ⟨u, rfl⟩
        have hB1 := ext_below W6 u
        have k0 := heap_keep hB1 HL.out.2.2.2.2.2.1
        have k1 := heap_keep hB1 HL.out.2.2.2.2.2.2.1
        have hs9 := same9 (ext W6 u) w1.heap.size (.int .u64 ((f0 ||| g0 : Nat) : Int)) (.int .u64 ((f1 ||| g1 : Nat) : Int)) (.int .u64 ((f2 ||| g2' : Nat) : Int)) (.int .u64 ((f3 ||| g3' : Nat) : Int)) (.int .u64 ((l0 ||| m0 : Nat) : Int)) (.int .u64 ((l1 ||| m1 : Nat) : Int)) (.int .u64 ((l2 ||| m2 : Nat) : Int)) (.int .u64 ((l3 ||| m3 : Nat) : Int)) (.bool f)
        have hB9 := below9 (Below.refl w.heap.size (ext W6 u)) (B := w1.heap.size) (by omega) (.int .u64 ((f0 ||| g0 : Nat) : Int)) (.int .u64 ((f1 ||| g1 : Nat) : Int)) (.int .u64 ((f2 ||| g2' : Nat) : Int)) (.int .u64 ((f3 ||| g3' : Nat) : Int)) (.int .u64 ((l0 ||| m0 : Nat) : Int)) (.int .u64 ((l1 ||| m1 : Nat) : Int)) (.int .u64 ((l2 ||| m2 : Nat) : Int)) (.int .u64 ((l3 ||| m3 : Nat) : Int)) (.bool f)
        have n1 := set9 k1 (.int .u64 ((f0 ||| g0 : Nat) : Int)) (.int .u64 ((f1 ||| g1 : Nat) : Int)) (.int .u64 ((f2 ||| g2' : Nat) : Int)) (.int .u64 ((f3 ||| g3' : Nat) : Int)) (.int .u64 ((l0 ||| m0 : Nat) : Int)) (.int .u64 ((l1 ||| m1 : Nat) : Int)) (.int .u64 ((l2 ||| m2 : Nat) : Int)) (.int .u64 ((l3 ||| m3 : Nat) : Int)) (.bool f)
        have hR9 := (HL.out.1.below hB1).same hs9 (hB9.mono (by omega)) (fun k hk e => by rcases hk with hk | hk | hk | hk <;> omega)
        have hw6 := hB1.size
        have HN : Hid (_ ∧ _ ∧ _ ∧ _ ∧ _ ∧ _ ∧ _ ∧ _ ∧ _ ∧ _ ∧ _ ∧ _ ∧ _) := ⟨hR9, (by omega : g2 = gb ∨ w.heap.size ≤ g2), (by omega : g2 ≠ w.heap.size), (by omega : g2 ≠ w1.heap.size), HL.out.2.1, HL.out.2.2.1, (four_trans HL.out.2.2.2.1 (four_below (gb := g2) hB1) (by omega)).kept hB9, (HL.out.2.2.2.2.1.trans (hB1.mono (by omega))).trans (hB9.mono (by omega)), hs9.row k0 (by omega), n1, (by omega : s3.size ≤ s.size), HL.out.2.2.2.2.2.2.2, Nat.lt_of_lt_of_le (by omega : w1.heap.size < (ext W6 u).heap.size) hs9.1⟩
        obtain ⟨_, t0, t1, t2, t3, t4, t5, t6, t7, t8⟩ := row9 k1
        have HM : Hid (_ ∧ _) := ⟨hR9.left, HS2.out.1.left⟩
        clear hB1 k0 k1 hs9 hB9 n1 hR9
        simp only [List.getLast]
        refine ⟨by intros; trivial, ?_⟩
        go_simp
        clear y0 y1 y2 y3 y4 y5 y6 y7 y8 x0 x1 x2 x3 x4 x5 x6 x7 x8 t0 t1 t2 t3 t4 t5 t6 t7 t8
        go_wp2
        go_roundw
        case rel => exact ⟨_, _, _, _, _, _, _, _, HN.out⟩
        case measure =>
          rw [HM.out.2]
          exact Nat.lt_of_le_of_lt (Nat.le_of_eq HM.out.1) (by omega)
      · refine region_plain_lastG (n := 9) rfl (by kernel_rfl) (by kernel_rfl) (by kernel_rfl) ?_
        simp only [List.dropLast]
        repeat (gi_big_quiet_step (fail))
        refine wpQuietIn_step (by intros; intro; intros; trivial) (fun K hK => ?_)
        rw [if_pos (show Region.wanted _ _ = true from rfl)]
        gi_big_quiet_op
        apply Exists.intro
        refine ⟨fun u => ?_, ?_⟩
        · first
            | (refine ⟨fun h => by cases h, (callsIn_wide.2 (HOr1.out _)).mono ?_⟩; rintro r w1 ⟨rfl, hB⟩; exact ⟨rfl, w1, ext_of (chain (ext_below _ _) hB)⟩)
            | (refine ⟨trivial, (callsIn_wide.2 (HOr1.out _)).mono ?_⟩; rintro r w1 ⟨rfl, hB⟩; exact ⟨rfl, w1, ext_of (chain (ext_below _ _) hB)⟩)
            | (refine (callsIn_wide.2 (HOr1.out _)).mono ?_; rintro r w1 ⟨rfl, hB⟩; exact ⟨rfl, w1, ext_of (chain (ext_below _ _) hB)⟩)
        refine hK _ ?_
        clear hK K
        repeat (gi_big_quiet_step (fail))
        refine wpQuietIn_step (by intros; intro; intros; trivial) (fun K hK => ?_)
        rw [if_pos (show Region.wanted _ _ = true from rfl)]
        gi_big_quiet_op
        apply Exists.intro
        refine ⟨fun u => ?_, ?_⟩
        · first
            | (refine ⟨fun h => by cases h, (callsIn_wide.2 (HOr2.out _)).mono ?_⟩; rintro r w1 ⟨rfl, hB⟩; exact ⟨rfl, w1, ext_of (chain (ext_below _ _) hB)⟩)
            | (refine ⟨trivial, (callsIn_wide.2 (HOr2.out _)).mono ?_⟩; rintro r w1 ⟨rfl, hB⟩; exact ⟨rfl, w1, ext_of (chain (ext_below _ _) hB)⟩)
            | (refine (callsIn_wide.2 (HOr2.out _)).mono ?_; rintro r w1 ⟨rfl, hB⟩; exact ⟨rfl, w1, ext_of (chain (ext_below _ _) hB)⟩)
        refine hK _ ?_
        clear hK K
        repeat (gi_big_quiet_step (fail))
        refine wpQuietIn_nil ?_
        rintro wx ⟨u, rfl⟩
        have hB1 := ext_below W6 u
        have k0 := heap_keep hB1 HL.out.2.2.2.2.2.1
        have k1 := heap_keep hB1 HL.out.2.2.2.2.2.2.1
        have hs9 := same9 (ext W6 u) w1.heap.size (.int .u64 ((f0 ||| g0 : Nat) : Int)) (.int .u64 ((f1 ||| g1 : Nat) : Int)) (.int .u64 ((f2 ||| g2' : Nat) : Int)) (.int .u64 ((f3 ||| g3' : Nat) : Int)) (.int .u64 ((l0 ||| m0 : Nat) : Int)) (.int .u64 ((l1 ||| m1 : Nat) : Int)) (.int .u64 ((l2 ||| m2 : Nat) : Int)) (.int .u64 ((l3 ||| m3 : Nat) : Int)) (.bool true)
        have hB9 := below9 (Below.refl w.heap.size (ext W6 u)) (B := w1.heap.size) (by omega) (.int .u64 ((f0 ||| g0 : Nat) : Int)) (.int .u64 ((f1 ||| g1 : Nat) : Int)) (.int .u64 ((f2 ||| g2' : Nat) : Int)) (.int .u64 ((f3 ||| g3' : Nat) : Int)) (.int .u64 ((l0 ||| m0 : Nat) : Int)) (.int .u64 ((l1 ||| m1 : Nat) : Int)) (.int .u64 ((l2 ||| m2 : Nat) : Int)) (.int .u64 ((l3 ||| m3 : Nat) : Int)) (.bool true)
        have n1 := set9 k1 (.int .u64 ((f0 ||| g0 : Nat) : Int)) (.int .u64 ((f1 ||| g1 : Nat) : Int)) (.int .u64 ((f2 ||| g2' : Nat) : Int)) (.int .u64 ((f3 ||| g3' : Nat) : Int)) (.int .u64 ((l0 ||| m0 : Nat) : Int)) (.int .u64 ((l1 ||| m1 : Nat) : Int)) (.int .u64 ((l2 ||| m2 : Nat) : Int)) (.int .u64 ((l3 ||| m3 : Nat) : Int)) (.bool true)
        have hR9 := (HL.out.1.below hB1).same hs9 (hB9.mono (by omega)) (fun k hk e => by rcases hk with hk | hk | hk | hk <;> omega)
        have hw6 := hB1.size
        have HN : Hid (_ ∧ _ ∧ _ ∧ _ ∧ _ ∧ _ ∧ _ ∧ _ ∧ _ ∧ _ ∧ _ ∧ _ ∧ _) := ⟨hR9, (by omega : g2 = gb ∨ w.heap.size ≤ g2), (by omega : g2 ≠ w.heap.size), (by omega : g2 ≠ w1.heap.size), HL.out.2.1, HL.out.2.2.1, (four_trans HL.out.2.2.2.1 (four_below (gb := g2) hB1) (by omega)).kept hB9, (HL.out.2.2.2.2.1.trans (hB1.mono (by omega))).trans (hB9.mono (by omega)), hs9.row k0 (by omega), n1, (by omega : s3.size ≤ s.size), HL.out.2.2.2.2.2.2.2, Nat.lt_of_lt_of_le (by omega : w1.heap.size < (ext W6 u).heap.size) hs9.1⟩
        obtain ⟨_, t0, t1, t2, t3, t4, t5, t6, t7, t8⟩ := row9 k1
        have HM : Hid (_ ∧ _) := ⟨hR9.left, HS2.out.1.left⟩
        clear hB1 k0 k1 hs9 hB9 n1 hR9
        simp only [List.getLast]
        refine ⟨by intros; trivial, ?_⟩
        go_simp
        clear y0 y1 y2 y3 y4 y5 y6 y7 y8 x0 x1 x2 x3 x4 x5 x6 x7 x8 t0 t1 t2 t3 t4 t5 t6 t7 t8
        go_wp2
        go_roundw
        case rel => exact ⟨_, _, _, _, _, _, _, _, HN.out⟩
        case measure =>
          rw [HM.out.2]
          exact Nat.lt_of_le_of_lt (Nat.le_of_eq HM.out.1) (by omega)
    · subst hw4
      have HC2 : Hid _ := hc2
      obtain ⟨⟨c0, c1, c2, c3, c4, c5, c6, c7, c8⟩, _⟩ := row9 HS2.out.2.2.2.2.2.2.2.2.2.1
      obtain ⟨⟨v0, v1, v2, v3, v4, v5, v6, v7, v8⟩, t0, t1, t2, t3, t4, t5, t6, t7, t8⟩ := row9 HS2.out.2.2.2.2.2.2.2.2.1
      clear hc2
      go_wp2
      have hB9 := below9 (Below.refl w.heap.size w4) (B := w.heap.size) (by omega) (.int .u64 (P.1.1 : Int)) (.int .u64 (P.1.2.1 : Int)) (.int .u64 (P.1.2.2.1 : Int)) (.int .u64 (P.1.2.2.2 : Int)) (.int .u64 (P.2.1.1 : Int)) (.int .u64 (P.2.1.2.1 : Int)) (.int .u64 (P.2.1.2.2.1 : Int)) (.int .u64 (P.2.1.2.2.2 : Int)) (.bool P.2.2)
      exact bodyPost_ret (results_cell_row rfl _ _ w.heap.size _ _ (0, 0) _ rfl (set9 HS2.out.2.2.2.2.2.2.2.2.1 _ _ _ _ _ _ _ _ _) rfl rfl rfl) rfl ⟨P, t, s', uc', rfl, ⟨ss1, ts1, ⟨g, cap, hg1, HS2.out.1.same (same9 _ w.heap.size _ _ _ _ _ _ _ _ _) (below9 (Below.refl base _) (by omega) _ _ _ _ _ _ _ _ _) (fun k hk e => by rcases hk with hk | hk | hk | hk <;> omega)⟩, HS2.out.2.2.2.2.1, HS2.out.2.2.2.2.2.1, HS2.out.2.2.2.2.2.2.1.kept hB9, HS2.out.2.2.2.2.2.2.2.1.trans (hB9.mono (by omega))⟩, hsz, HS2.out.2.2.2.2.2.2.2.2.2.2.2.1.stop HC2.out⟩
/-- choice, row and piece keep their word -/
theorem choice_all : ∀ N, ChoC N
  | 0 => fun _ _ _ _ _ _ _ _ _ _ _ _ _ h => absurd h (Nat.not_lt_zero _)
  | N + 1 => choice_of (row_of (piece_of (choice_all N)))
theorem choice_any (base R X : Nat) (s : ByteArray) (n : Nat) (uc : Bool) (gb cb gt ct : Nat) (ss ts : List S4) (w : World) (h : Rdr w base R X s n uc gb cb gt ct ss ts) : Calls Tryz.prog 53 #[.pointer (some ⟨R, 0, none⟩)] w (ChoPost base R X n s uc gb gt ct ss ts w) :=
  choice_all (s.size + 1) base R X s n uc gb cb gt ct ss ts w (by omega) h
end Go.Proofs.YtphjbbbnbmafnabGreatDoor.G
