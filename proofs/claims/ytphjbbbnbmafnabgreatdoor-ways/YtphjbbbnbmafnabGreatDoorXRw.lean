/-
  The reader's piece: what it reads, by what choice reads of shorter texts.
  The reader's row: what stands one behind the other, with its stars.
-/
import Derived.Test.YtphjbbbnbmafnabGreatDoorXPc
namespace Go.Proofs.YtphjbbbnbmafnabGreatDoor.G
open Go.RowKit Go.Shelf Go.Proofs.YtphjbbbnbmafnabGreatDoor.RxM

set_option maxRecDepth 100000 in
set_option maxHeartbeats 16000000 in
theorem piece_of {N : Nat} (IH : ChoC N) : PieC (N + 1) := by
  intro base R X s n uc gb cb gt ct ss ts w hN h
  have hl := h.lt
  have hbs := h.bs
  have hroom := h.room
  have hn26 := h.n26
  have htl := h.tl
  obtain ⟨W0, hW0⟩ : ∃ W0, W0 = w.alloc (.cells z9 118) := ⟨_, rfl⟩
  have hJ : Below w.heap.size w W0 := by rw [hW0]; exact below1 _ _
  have r0 : W0.heap[w.heap.size]? = some (.cells z9 118 (0, 0)) := by rw [hW0]; exact heap_alloc_new w _
  have hs0 : w.heap.size < W0.heap.size := by rw [hW0]; simp
  have hR0 := h.below hJ
  have HT : Hid (Calls Tryz.prog 84 #[.pointer (some ⟨R, 0, none⟩), .int .u8 40] W0 _) := take_any R 40 s W0 hR0.cells.1.1 hR0.cells.2.2.1.1
  have HR0 : Hid _ := hR0
  have HJ : Hid _ := hJ
  have HH : Hid _ := h
  have HI : Hid _ := IH
  have HX0 : Hid _ := r0
  clear hR0 hJ h IH r0
  go_enter Tryz.func107, Tryz.ntmps107
  go_wp2_with fail
  rw [← hW0]
  have HW0 : Hid _ := hW0
  clear hW0
  refine HT.out.mono ?_
  rintro e w1 (⟨s2, hc, hsz, rfl, hw1⟩ | ⟨hc, rfl, hw1⟩)
  · have hR1 : Rdr w1 base R X s2 n uc gb cb gt ct ss ts := by rw [hw1]; exact HR0.out.rest s2 (by omega)
    have hS1 : Same W0 w1 (Four R X gb gt) := by rw [hw1]; exact four_set W0 _
    have hB1 : Below base W0 w1 := by rw [hw1]; exact (Below.refl base W0).setCell (p := ⟨R, 0, none⟩) hbs.2.1 _
    have q0 := hS1.row HX0.out (fun e => by rcases e with e | e | e | e <;> omega)
    have hz1 := hS1.1
    have HA : Hid (_ ∧ _ ∧ _ ∧ _) := ⟨hR1, four_trans (four_below HJ.out) hS1 (.inl rfl), (HJ.out.mono (by omega)).trans hB1, q0⟩
    have HC1 : Hid _ := hc
    clear hw1 hR1 hS1 hB1 q0 hc
    go_wp2_with fail
    refine (HI.out base R X s2 n uc gb cb gt ct ss ts w1 (by omega) HA.out.1).mono ?_
    rintro e w2 ⟨P, t, s3, uc3, rfl, ⟨ss2, ts2, ⟨g, cap, hg, hR2⟩, hlaid, hpart, hsm, hbw⟩, hsz3, hpost⟩
    have hz2 := hsm.1
    have q0 := hsm.row HA.out.2.2.2 (fun e => by rcases e with e | e | e | e <;> omega)
    obtain ⟨W3, hW3⟩ : ∃ W3, W3 = w2.alloc (.cells (c9 P) 118) := ⟨_, rfl⟩
    have hJ3 : Below w2.heap.size w2 W3 := by rw [hW3]; exact below1 _ _
    have q1 : W3.heap[w2.heap.size]? = some (.cells (c9 P) 118 (0, 0)) := by rw [hW3]; exact heap_alloc_new w2 _
    have hR3 := hR2.below hJ3
    have hg2 : g = gb ∨ w.heap.size ≤ g := by omega
    have hS3 : Same w W3 (Four R X gb gt) := four_trans (four_trans HA.out.2.1 hsm (.inl rfl)) (four_below (gb := g) hJ3) hg2
    have hB3 : Below base w W3 := (HA.out.2.2.1.trans hbw).trans (hJ3.mono (by omega))
    have HT2 : Hid (Calls Tryz.prog 84 #[.pointer (some ⟨R, 0, none⟩), .int .u8 41] W3 _) := take_any R 41 s3 W3 hR3.cells.1.1 hR3.cells.2.2.1.1
    have q2 := heap_keep hJ3 q0
    have HK : Hid (_ ∧ _ ∧ _ ∧ _ ∧ _ ∧ _ ∧ _ ∧ _) := ⟨hR3, hS3, hB3, q1, q2, hg2, hlaid, hpart⟩
    have HP : Hid _ := hpost
    have hz3 : w2.heap.size < W3.heap.size := by rw [hW3]; simp
    have hgl := hR2.lt
    clear hR2 hlaid hpart hsm hbw hpost q0 q1 q2 hJ3 hR3 hS3 hB3
    obtain ⟨⟨f0, f1, f2, f3⟩, ⟨l0, l1, l2, l3⟩, e⟩ := P
    simp only [vp]
    go_wp2_with fail
    rw [← hW3]
    have HW3 : Hid _ := hW3
    clear hW3
    refine HT2.out.mono ?_
    rintro e4 w4 (⟨s4, hc4, hsz4, rfl, hw4⟩ | ⟨hc4, rfl, hw4⟩)
    · have hS4 : Same W3 w4 (Four R X g gt) := by rw [hw4]; exact four_set W3 _
      have hR4 : Rdr w4 base R X s4 n uc3 g cap gt ct ss2 ts2 := by rw [hw4]; exact HK.out.1.rest s4 (by omega)
      have hB4 : Below base W3 w4 := by rw [hw4]; exact (Below.refl base W3).setCell (p := ⟨R, 0, none⟩) hbs.2.1 _
      have q1 := hS4.row HK.out.2.2.2.1 (fun e => by rcases e with e | e | e | e <;> omega)
      have q2 := hS4.row HK.out.2.2.2.2.1 (fun e => by rcases e with e | e | e | e <;> omega)
      have HL : Hid (_ ∧ _ ∧ _ ∧ _) := ⟨hR4, four_trans HK.out.2.1 hS4 HK.out.2.2.2.2.2.1, HK.out.2.2.1.trans hB4, q2⟩
      obtain ⟨⟨d0, d1, d2, d3, d4, d5, d6, d7, d8⟩, _⟩ := row9 q1
      obtain ⟨_, t0, t1, t2, t3, t4, t5, t6, t7, t8⟩ := row9 q2
      have HC4 : Hid _ := hc4
      clear hw4 hS4 hR4 hB4 q1 q2 hc4
      go_wp2
      have hB9 := below9 (Below.refl w.heap.size w4) (B := w.heap.size) (by omega) (.int .u64 (f0 : Int)) (.int .u64 (f1 : Int)) (.int .u64 (f2 : Int)) (.int .u64 (f3 : Int)) (.int .u64 (l0 : Int)) (.int .u64 (l1 : Int)) (.int .u64 (l2 : Int)) (.int .u64 (l3 : Int)) (.bool e)
      have hs9 := same9 w4 w.heap.size (.int .u64 (f0 : Int)) (.int .u64 (f1 : Int)) (.int .u64 (f2 : Int)) (.int .u64 (f3 : Int)) (.int .u64 (l0 : Int)) (.int .u64 (l1 : Int)) (.int .u64 (l2 : Int)) (.int .u64 (l3 : Int)) (.bool e)
      refine bodyPost_ret (results_cell_row2 rfl _ _ w.heap.size _ _ (0, 0) _ _ rfl rfl (set9 HL.out.2.2.2 _ _ _ _ _ _ _ _ _) rfl rfl rfl) rfl (.inr ⟨((f0, f1, f2, f3), (l0, l1, l2, l3), e), t, s4, uc3, rfl, ⟨ss2, ts2, ⟨g, cap, HK.out.2.2.2.2.2.1, HL.out.1.same hs9 (hB9.mono (by omega)) (fun k hk e => by rcases hk with hk | hk | hk | hk <;> omega)⟩, HK.out.2.2.2.2.2.2.1, HK.out.2.2.2.2.2.2.2, HL.out.2.1.kept hB9, HL.out.2.2.1.trans (hB9.mono (by omega))⟩, by omega, ?_⟩)
      rcases HP.out with ⟨h1, q, f, h2, h3, h4, _⟩ | ⟨h1, h2⟩
      · refine .inl ⟨h1, 40 :: (q ++ [41]), ?_, by rw [h4]; exact piece_bracket h3⟩
        rw [HC1.out, h2, HC4.out]; simp
      · exact .inr ⟨h1, by rw [HC1.out]; exact piece_in h2⟩
    · subst hw4
      obtain ⟨⟨d0, d1, d2, d3, d4, d5, d6, d7, d8⟩, _⟩ := row9 HK.out.2.2.2.1
      obtain ⟨⟨v0, v1, v2, v3, v4, v5, v6, v7, v8⟩, t0, t1, t2, t3, t4, t5, t6, t7, t8⟩ := row9 HK.out.2.2.2.2.1
      obtain ⟨⟨_, _, _, p3⟩, _, ⟨_, pf⟩, _⟩ := HK.out.1.cells
      have n1 : w2.heap.size ≠ R := by omega
      have n2 : w.heap.size ≠ R := by omega
      have n3 := n1.symm
      have n4 := n2.symm
      have hR4 := HK.out.1.open_
      have q2 := xset_other w4 R 3 w.heap.size (.bool true) HK.out.2.2.2.2.1 n2
      have HL : Hid (_ ∧ _ ∧ _ ∧ _) := ⟨hR4, four_trans HK.out.2.1 (four_set (R := R) (X := X) (gb := g) (gt := gt) (i := 3) w4 (.bool true)) HK.out.2.2.2.2.2.1, HK.out.2.2.1.trans ((Below.refl base w4).setCell (p := ⟨R, 3, none⟩) hbs.2.1 (.bool true)), q2⟩
      have HC4 : Hid _ := hc4
      clear hR4 q2 hc4
      go_wp2
      have hB9 := below9 (Below.refl w.heap.size (w4.setCell ⟨R, 3, none⟩ (.bool true))) (B := w.heap.size) (by omega) (.int .u64 (f0 : Int)) (.int .u64 (f1 : Int)) (.int .u64 (f2 : Int)) (.int .u64 (f3 : Int)) (.int .u64 (l0 : Int)) (.int .u64 (l1 : Int)) (.int .u64 (l2 : Int)) (.int .u64 (l3 : Int)) (.bool e)
      have hs9 := same9 (w4.setCell ⟨R, 3, none⟩ (.bool true)) w.heap.size (.int .u64 (f0 : Int)) (.int .u64 (f1 : Int)) (.int .u64 (f2 : Int)) (.int .u64 (f3 : Int)) (.int .u64 (l0 : Int)) (.int .u64 (l1 : Int)) (.int .u64 (l2 : Int)) (.int .u64 (l3 : Int)) (.bool e)
      refine bodyPost_ret (results_cell_row2 rfl _ _ w.heap.size _ _ (0, 0) _ _ rfl rfl (set9 HL.out.2.2.2 _ _ _ _ _ _ _ _ _) rfl rfl rfl) rfl (.inr ⟨((f0, f1, f2, f3), (l0, l1, l2, l3), e), t, s3, true, rfl, ⟨ss2, ts2, ⟨g, cap, HK.out.2.2.2.2.2.1, HL.out.1.same hs9 (hB9.mono (by omega)) (fun k hk e => by rcases hk with hk | hk | hk | hk <;> omega)⟩, HK.out.2.2.2.2.2.2.1, HK.out.2.2.2.2.2.2.2, HL.out.2.1.kept hB9, HL.out.2.2.1.trans (hB9.mono (by omega))⟩, by omega, .inr ⟨rfl, ?_⟩⟩)
      rw [HC1.out]
      rcases HP.out with ⟨h1, q, f, h2, h3, h4, h5⟩ | ⟨h1, h2⟩
      · rw [h2]; exact piece_open h3 h5 HC4.out
      · exact piece_in h2
  · subst hw1
    have HT2 : Hid (Calls Tryz.prog 84 #[.pointer (some ⟨R, 0, none⟩), .int .u8 46] w1 _) := take_any R 46 s w1 HR0.out.cells.1.1 HR0.out.cells.2.2.1.1
    have HC1 : Hid _ := hc
    clear hc HT
    go_wp2_with fail
    refine HT2.out.mono ?_
    rintro e w2 (⟨s2, hc2, hsz, rfl, hw2⟩ | ⟨hc2, rfl, hw2⟩)
    · have hR2 : Rdr w2 base R X s2 n uc gb cb gt ct ss ts := by rw [hw2]; exact HR0.out.rest s2 (by omega)
      have hS2 : Same w1 w2 (Four R X gb gt) := by rw [hw2]; exact four_set w1 _
      have hB2 : Below base w1 w2 := by rw [hw2]; exact (Below.refl base w1).setCell (p := ⟨R, 0, none⟩) hbs.2.1 _
      have q0 := hS2.row HX0.out (fun e => by rcases e with e | e | e | e <;> omega)
      have hz2 := hS2.1
      have HA : Hid (_ ∧ _ ∧ _ ∧ _) := ⟨hR2, four_trans (four_below HJ.out) hS2 (.inl rfl), (HJ.out.mono (by omega)).trans hB2, q0⟩
      have HNp : Hid (Calls Tryz.prog 129 #[.pointer (some ⟨R, 0, none⟩), .agg #[.int .i64 0, .int .i64 (n : Int)]] w2 _) := newplace_any base R X s2 n uc gb cb gt ct ss ts 0 n (Nat.zero_le _) (Nat.le_refl _) w2 hR2 (by omega)
      have HC2 : Hid _ := hc2
      obtain ⟨⟨_, p1, _, _⟩, _⟩ := hR2.cells
      clear hw2 hR2 hS2 hB2 q0 hc2
      go_wp2_with fail
      refine HNp.out.mono ?_
      rintro e w3 ⟨rfl, ⟨g, cap, hg, hR3⟩, hS3, hB3⟩
      have hg2 : g = gb ∨ w.heap.size ≤ g := by omega
      have hsm : Same w2 w3 (Four R X gb gt) := hS3.mono fun k _ e => .inr e
      have q0 := hsm.row HA.out.2.2.2 (fun e => by rcases e with e | e | e | e <;> omega)
      obtain ⟨_, t0, t1, t2, t3, t4, t5, t6, t7, t8⟩ := row9 q0
      have hgl := hR3.lt
      have HL : Hid (_ ∧ _ ∧ _ ∧ _) := ⟨hR3, four_trans HA.out.2.1 hsm (.inl rfl), HA.out.2.2.1.trans hB3, q0⟩
      have hgw : g ≠ w.heap.size := by omega
      clear hR3 hS3 hB3 hsm q0
      obtain ⟨z, hz⟩ : ∃ z, one4 ss.length = z := ⟨_, rfl⟩
      have HZ : Hid (one4 ss.length = z) := hz
      rw [hz]
      clear hz
      obtain ⟨o0, o1, o2, o3⟩ := z
      simp only [vp]
      go_wp2
      have hB9 := below9 (Below.refl w.heap.size w3) (B := w.heap.size) (by omega) (.int .u64 (o0 : Int)) (.int .u64 (o1 : Int)) (.int .u64 (o2 : Int)) (.int .u64 (o3 : Int)) (.int .u64 (o0 : Int)) (.int .u64 (o1 : Int)) (.int .u64 (o2 : Int)) (.int .u64 (o3 : Int)) (.bool false)
      have hs9 := same9 w3 w.heap.size (.int .u64 (o0 : Int)) (.int .u64 (o1 : Int)) (.int .u64 (o2 : Int)) (.int .u64 (o3 : Int)) (.int .u64 (o0 : Int)) (.int .u64 (o1 : Int)) (.int .u64 (o2 : Int)) (.int .u64 (o3 : Int)) (.bool false)
      refine bodyPost_ret (results_cell_row2 rfl _ _ w.heap.size _ _ (0, 0) _ _ rfl rfl (set9 HL.out.2.2.2 _ _ _ _ _ _ _ _ _) rfl rfl rfl) rfl (.inr ⟨(one4 ss.length, one4 ss.length, false), .sym none, s2, uc, by rw [HZ.out]; rfl, ⟨_, _, ⟨g, cap, hg2, HL.out.1.same hs9 (hB9.mono (by omega)) (fun k hk e => by rcases hk with hk | hk | hk | hk <;> omega)⟩, laid_point (by omega) htl, isPart_sym (by omega) none, HL.out.2.1.kept hB9, HL.out.2.2.1.trans (hB9.mono (by omega))⟩, by omega, .inl ⟨rfl, [46], HC2.out, piece_point n⟩⟩)
    · subst hw2
      have HC2 : Hid _ := hc2
      clear hc2 HT2
      obtain ⟨⟨_, p1, _, _⟩, _⟩ := HR0.out.cells
      go_wp2
      go_loopw [30, 5] (fun si s5 wr => ∃ i : Nat, i ≤ n ∧ si = .int .i64 (i : Int) ∧ wr = w2 ∧ Hid (∀ c, c < i → ∀ l, codes s ≠ (97 + c) :: l)) (fun si _ _ => n - (intOf si).toNat)
      case atStart => exact ⟨0, by omega, rfl, rfl, fun c hc => by omega⟩
      case round =>
        obtain ⟨i, hi, rfl, rfl, HNo⟩ := hrel
        by_cases hlt : i < n
        · have hiI : (i : Int) < (n : Int) := by omega
          have e1 : IntKind.u8.wrap (i : Int) = (i : Int) := by rw [IntKind.wrap_u8]; omega
          have e2 : IntKind.u8.wrap (97 + (i : Int)) = 97 + (i : Int) := by rw [IntKind.wrap_u8]; omega
          have HT3 : Hid (Calls Tryz.prog 84 #[.pointer (some ⟨R, 0, none⟩), .int .u8 (97 + (i : Int))] wr _) := take_any R (97 + i) s wr HR0.out.cells.1.1 HR0.out.cells.2.2.1.1
          go_wp2_with fail
          refine HT3.out.mono ?_
          rintro e w3 (⟨s2, hc3, hsz, rfl, hw3⟩ | ⟨hc3, rfl, hw3⟩)
          · have hR2 : Rdr w3 base R X s2 n uc gb cb gt ct ss ts := by rw [hw3]; exact HR0.out.rest s2 (by omega)
            have hS2 : Same wr w3 (Four R X gb gt) := by rw [hw3]; exact four_set wr _
            have hB2 : Below base wr w3 := by rw [hw3]; exact (Below.refl base wr).setCell (p := ⟨R, 0, none⟩) hbs.2.1 _
            have q0 := hS2.row HX0.out (fun e => by rcases e with e | e | e | e <;> omega)
            have hz2 := hS2.1
            have HA : Hid (_ ∧ _ ∧ _ ∧ _) := ⟨hR2, four_trans (four_below HJ.out) hS2 (.inl rfl), (HJ.out.mono (by omega)).trans hB2, q0⟩
            have HC3 : Hid _ := hc3
            have HOn : Hid (Calls Tryz.prog 61 #[.int .i64 (i : Int)] w3 _) := xonly_any i (by omega) w3
            clear hw3 hR2 hS2 hB2 q0 hc3
            go_wp2_with fail
            refine HOn.out.mono ?_
            rintro e w4 ⟨rfl, hB4⟩
            have hz4 := hB4.size
            have HNp : Hid (Calls Tryz.prog 129 #[.pointer (some ⟨R, 0, none⟩), .agg #[.int .i64 (i : Int), .int .i64 ((i + 1 : Nat) : Int)]] w4 _) := newplace_any base R X s2 n uc gb cb gt ct ss ts i (i + 1) (by omega) (by omega) w4 (HA.out.1.below hB4) (by omega)
            have HA4 : Hid (_ ∧ _ ∧ _) := ⟨four_trans (gb := gb) HA.out.2.1 (four_below (gb := gb) hB4) (.inl rfl), HA.out.2.2.1.trans (hB4.mono (by omega)), heap_keep hB4 HA.out.2.2.2⟩
            clear hB4
            go_wp2_with fail
            refine HNp.out.mono ?_
            rintro e w5 ⟨rfl, ⟨g, cap, hg, hR3⟩, hS3, hB3⟩
            have hg2 : g = gb ∨ w.heap.size ≤ g := by omega
            have hsm : Same w4 w5 (Four R X gb gt) := hS3.mono fun k _ e => .inr e
            have q0 := hsm.row HA4.out.2.2 (fun e => by rcases e with e | e | e | e <;> omega)
            obtain ⟨_, t0, t1, t2, t3, t4, t5, t6, t7, t8⟩ := row9 q0
            have hgl := hR3.lt
            have HL : Hid (_ ∧ _ ∧ _ ∧ _) := ⟨hR3, four_trans HA4.out.1 hsm (.inl rfl), HA4.out.2.1.trans hB3, q0⟩
            have hgw : g ≠ w.heap.size := by omega
            clear hR3 hS3 hB3 hsm q0
            obtain ⟨z, hz⟩ : ∃ z, one4 ss.length = z := ⟨_, rfl⟩
            have HZ : Hid (one4 ss.length = z) := hz
            rw [hz]
            clear hz
            obtain ⟨o0, o1, o2, o3⟩ := z
            simp only [vp]
            go_wp2
            have hB9 := below9 (Below.refl w.heap.size w5) (B := w.heap.size) (by omega) (.int .u64 (o0 : Int)) (.int .u64 (o1 : Int)) (.int .u64 (o2 : Int)) (.int .u64 (o3 : Int)) (.int .u64 (o0 : Int)) (.int .u64 (o1 : Int)) (.int .u64 (o2 : Int)) (.int .u64 (o3 : Int)) (.bool false)
            have hs9 := same9 w5 w.heap.size (.int .u64 (o0 : Int)) (.int .u64 (o1 : Int)) (.int .u64 (o2 : Int)) (.int .u64 (o3 : Int)) (.int .u64 (o0 : Int)) (.int .u64 (o1 : Int)) (.int .u64 (o2 : Int)) (.int .u64 (o3 : Int)) (.bool false)
            refine bodyPost_ret (results_cell_row2 rfl _ _ w.heap.size _ _ (0, 0) _ _ rfl rfl (set9 HL.out.2.2.2 _ _ _ _ _ _ _ _ _) rfl rfl rfl) rfl (.inr ⟨(one4 ss.length, one4 ss.length, false), .sym (some i), s2, uc, by rw [HZ.out]; rfl, ⟨_, _, ⟨g, cap, hg2, HL.out.1.same hs9 (hB9.mono (by omega)) (fun k hk e => by rcases hk with hk | hk | hk | hk <;> omega)⟩, laid_letter (by omega), isPart_sym (by omega) (some i), HL.out.2.1.kept hB9, HL.out.2.2.1.trans (hB9.mono (by omega))⟩, by omega, .inl ⟨rfl, [97 + i], HC3.out, piece_letter hlt hn26⟩⟩)
          · subst hw3
            have HN : Hid (∀ c, c < i + 1 → ∀ l, codes s ≠ (97 + c) :: l) := (fun c hc => (by
              rcases Nat.lt_or_ge c i with h | h
              · exact HNo.out c h
              · obtain rfl : c = i := by omega
                exact hc3) : ∀ c, c < i + 1 → ∀ l, codes s ≠ (97 + c) :: l)
            clear hc3
            go_wp2
            go_roundw
            case rel => exact ⟨i + 1, by omega, by go_num, by trivial, HN.out⟩
            case measure => simp [intOf]; omega
        · obtain rfl : i = n := by omega
          obtain ⟨⟨v0, v1, v2, v3, v4, v5, v6, v7, v8⟩, t0, t1, t2, t3, t4, t5, t6, t7, t8⟩ := row9 HX0.out
          go_wp2
          have hB9 := below9 (Below.refl w.heap.size wr) (B := w.heap.size) (by omega) (.int .u64 0) (.int .u64 0) (.int .u64 0) (.int .u64 0) (.int .u64 0) (.int .u64 0) (.int .u64 0) (.int .u64 0) (.bool false)
          refine bodyPost_ret (results_cell_row2 rfl _ _ w.heap.size _ _ (0, 0) _ _ rfl rfl (set9 HX0.out _ _ _ _ _ _ _ _ _) rfl rfl rfl) rfl (.inl ⟨rfl, HJ.out.trans hB9, fun c l hcl => ⟨fun e => HC1.out l (by rw [hcl, e]), fun e => HC2.out l (by rw [hcl, e]), fun he => HNo.out (c - 97) (by omega) l (by rw [hcl, show 97 + (c - 97) = c by omega])⟩⟩)
end Go.Proofs.YtphjbbbnbmafnabGreatDoor.G

namespace Go.Proofs.YtphjbbbnbmafnabGreatDoor.G
open Go.RowKit Go.Shelf Go.Proofs.YtphjbbbnbmafnabGreatDoor.RxM

abbrev e9 : Array Value := #[.int .u64 0, .int .u64 0, .int .u64 0, .int .u64 0, .int .u64 0, .int .u64 0, .int .u64 0, .int .u64 0, .bool true]
/-- how much of the text is left -/
def restLen (R : Nat) (w : World) : Nat := match w.cell? ⟨R, 0, none⟩ with | some (.string s) => s.size | _ => 0
theorem Rdr.left {w : World} {base R X : Nat} {s : ByteArray} {n : Nat} {uc : Bool} {gb cb gt ct : Nat} {ss ts : List S4} (h : Rdr w base R X s n uc gb cb gt ct ss ts) : restLen R w = s.size := by
  unfold restLen; rw [h.cells.1.1]
/-- what is known ahead of a piece: what was read so far, or nothing comes of it any more -/
def RowAl (n : Nat) (s : ByteArray) (uc : Bool) (s' : ByteArray) (uc' : Bool) (t : Rx) : Prop :=
  (uc' = uc ∧ ∃ q r p, codes s = q ++ codes s' ∧ RowTo n q r p ∧ t = ab r p ∧ (∀ l, codes s' = 42 :: l → p = none)) ∨ (uc' = true ∧ RowDead n (codes s))
/-- and behind one -/
def PieAl (n : Nat) (s : ByteArray) (uc : Bool) (s' : ByteArray) (uc' : Bool) (r t : Rx) : Prop :=
  (uc' = uc ∧ ∃ q, codes s = q ++ codes s' ∧ RowTo n q r (some t)) ∨ (uc' = true ∧ RowDead n (codes s))
theorem rowAl_start (n : Nat) (s : ByteArray) (uc : Bool) : RowAl n s uc s uc .eps := .inl ⟨rfl, [], .eps, none, rfl, rowTo_nil n, rfl, fun _ _ => rfl⟩
theorem RowAl.piece {n : Nat} {s s' s2 : ByteArray} {uc uc' uc2 : Bool} {t t2 : Rx} (h : RowAl n s uc s' uc' t) (h2 : (uc2 = uc' ∧ ∃ q, codes s' = q ++ codes s2 ∧ PieceTo n q t2) ∨ (uc2 = true ∧ PieceDead n (codes s'))) : PieAl n s uc s2 uc2 t t2 := by
  rcases h with ⟨h1, q, r, p, h3, h4, h5, _⟩ | ⟨h1, h3⟩
  · rcases h2 with ⟨e1, q2, e2, e3⟩ | ⟨e1, e2⟩
    · exact .inl ⟨e1.trans h1, q ++ q2, by rw [h3, e2, List.append_assoc], by rw [h5]; exact e3 q r p h4⟩
    · exact .inr ⟨e1, by rw [h3]; exact e2 q r p h4⟩
  · refine .inr ⟨?_, h3⟩
    rcases h2 with ⟨e1, _⟩ | ⟨e1, _⟩
    · exact e1.trans h1
    · exact e1
theorem PieAl.star {n : Nat} {s s' s2 : ByteArray} {uc uc' : Bool} {r t : Rx} (h : PieAl n s uc s' uc' r t) (hs : codes s' = 42 :: codes s2) : PieAl n s uc s2 uc' r (.star t) := by
  rcases h with ⟨h1, q, h3, h4⟩ | h1
  · exact .inl ⟨h1, q ++ [42], by rw [h3, hs]; simp, h4.star⟩
  · exact .inr h1
theorem PieAl.join {n : Nat} {s s' : ByteArray} {uc uc' : Bool} {r t : Rx} (h : PieAl n s uc s' uc' r t) (hs : ∀ l, codes s' ≠ 42 :: l) : RowAl n s uc s' uc' (.cat r t) := by
  rcases h with ⟨h1, q, h3, h4⟩ | h1
  · exact .inl ⟨h1, q, r, some t, h3, h4, rfl, fun l hl => absurd hl (hs l)⟩
  · exact .inr h1
/-- the row is at its end -/
theorem RowAl.stop {n : Nat} {s s' : ByteArray} {uc uc' : Bool} {t : Rx} (h : RowAl n s uc s' uc' t) (hn : NoPiece n (codes s')) : (uc' = uc ∧ ∃ q r p, codes s = q ++ codes s' ∧ RowTo n q r p ∧ t = ab r p ∧ StopR n (codes s') p) ∨ (uc' = true ∧ RowDead n (codes s)) := by
  rcases h with ⟨h1, q, r, p, h3, h4, h5, h6⟩ | h1
  · refine .inl ⟨h1, q, r, p, h3, h4, h5, ?_⟩
    cases e : codes s' with
    | nil => exact .inl (.inl rfl)
    | cons c l =>
      obtain ⟨n1, n2, n3⟩ := hn c l e
      by_cases c1 : c = 124
      · subst c1; exact .inr ⟨l, rfl⟩
      · by_cases c2 : c = 41
        · subst c2; exact .inl (.inr (.inl ⟨l, rfl⟩))
        · refine .inl (.inr (.inr ⟨c, l, rfl, c1, fun a r st => ?_⟩))
          by_cases c3 : c = 42
          · subst c3
            rw [h6 l e]
            exact step42_none n a r st
          · exact step_bad n c a r p st c1 c3 n1 c2 n2 n3
  · exact .inr h1
theorem lst_lt {P : P4} {t : Rx} {ss ts ss1 ts1 : List S4} (hl : Laid t ss ts ss1 ts1) (hp : IsPart P t ss.length) {p : Nat} (h : mem4 P.2.1 p = true) : p < ss1.length := by
  rw [hp.ls] at h
  have := lst_in _ _ _ h
  rw [hl.len]
  omega
set_option maxRecDepth 100000 in
set_option maxHeartbeats 16000000 in
theorem row_of {N : Nat} (HP : PieC N) : RowC N := by
  intro base R X s n uc gb cb gt ct ss ts w hN h
  have hl := h.lt
  have hbs := h.bs
  obtain ⟨W0, hW0⟩ : ∃ W0, W0 = (w.alloc (.cells z9 118)).alloc (.cells e9 118) := ⟨_, rfl⟩
  have hJ : Below w.heap.size w W0 := by rw [hW0]; exact xal (below1 _ _)
  have r0 : W0.heap[w.heap.size]? = some (.cells z9 118 (0, 0)) := by rw [hW0]; exact heap_keep (below1 _ _) (heap_alloc_new w _)
  have r1 : W0.heap[w.heap.size + 1]? = some (.cells e9 118 (0, 0)) := by
    rw [hW0]
    have := heap_alloc_new (w.alloc (.cells z9 118)) (.cells e9 118)
    rwa [World.size_alloc] at this
  have hs0 : w.heap.size + 1 < W0.heap.size := by rw [hW0]; simp
  have HR0 : Hid _ := h.below hJ
  have HJ : Hid _ := hJ
  have HI : Hid (PieC N) := HP
  have HX0 : Hid (_ ∧ _) := ⟨r0, r1⟩
  clear hJ h HP r0 r1
  go_enter Tryz.func83, Tryz.ntmps83
  go_wp2
  rw [← hW0]
  have HW0 : Hid _ := hW0
  clear hW0
  go_loopw [5] (fun _ wr => ∃ P t s' uc' g cap ss1 ts1, Hid (Rdr wr base R X s' n uc' g cap gt ct ss1 ts1 ∧ (g = gb ∨ w.heap.size + 1 < g) ∧ Laid t ss ts ss1 ts1 ∧ IsPart P t ss.length ∧ Same w wr (Four R X gb gt) ∧ Below base w wr ∧ wr.heap[w.heap.size]? = some (.cells z9 118 (0, 0)) ∧ wr.heap[w.heap.size + 1]? = some (.cells (c9 P) 118 (0, 0)) ∧ s'.size ≤ s.size ∧ RowAl n s uc s' uc' t ∧ w.heap.size + 1 < wr.heap.size)) (fun _ wr => restLen R wr)
  case atStart => exact ⟨(z4, z4, true), .eps, s, uc, gb, cb, ss, ts, HR0.out, .inl rfl, laid_eps ss ts, isPart_eps _, four_below HJ.out, HJ.out.mono (by omega), HX0.out.1, HX0.out.2, Nat.le_refl _, rowAl_start n s uc, hs0⟩
  case round =>
    obtain ⟨P, t, s', uc', g, cap, ss1, ts1, HS⟩ := hrel
    have HS2 : Hid (_ ∧ _ ∧ _ ∧ _ ∧ _ ∧ _ ∧ _ ∧ _ ∧ _ ∧ _ ∧ _) := HS.out
    clear HS
    have hsz := HS2.out.2.2.2.2.2.2.2.2.1
    have hg := HS2.out.2.1
    have hwr := HS2.out.2.2.2.2.2.2.2.2.2.2
    have hlr := HS2.out.1.lt
    go_wp2_with fail
    refine (HI.out base R X s' n uc' g cap gt ct ss1 ts1 wr (by omega) HS2.out.1).mono ?_
    rintro e w2 (⟨rfl, hB, hno⟩ | ⟨P2, t2, s2, uc2, rfl, ⟨ss2, ts2, ⟨g2, cap2, hg2, hR2⟩, hlaid, hpart, hsm, hbw⟩, hsz2, hpost⟩)
    · have q0 := heap_keep hB HS2.out.2.2.2.2.2.2.1
      have q1 := heap_keep hB HS2.out.2.2.2.2.2.2.2.1
      have hz2 := hB.size
      obtain ⟨W3, hW3⟩ : ∃ W3, W3 = w2.alloc (.cells z9 118) := ⟨_, rfl⟩
      have hJ3 : Below w2.heap.size w2 W3 := by rw [hW3]; exact below1 _ _
      have k0 := heap_keep hJ3 q0
      have k1 := heap_keep hJ3 q1
      have hBW : Below wr.heap.size wr W3 := chain hB hJ3
      have HK : Hid (_ ∧ _ ∧ _) := ⟨hBW, k0, hno⟩
      have y := fun o => row9 (heap_keep (below1 w2 o) q1)
      have y0 := fun o => (y o).1.1
      have y1 := fun o => (y o).1.2.1
      have y2 := fun o => (y o).1.2.2.1
      have y3 := fun o => (y o).1.2.2.2.1
      have y4 := fun o => (y o).1.2.2.2.2.1
      have y5 := fun o => (y o).1.2.2.2.2.2.1
      have y6 := fun o => (y o).1.2.2.2.2.2.2.1
      have y7 := fun o => (y o).1.2.2.2.2.2.2.2.1
      have y8 := fun o => (y o).1.2.2.2.2.2.2.2.2
      have x := fun o => row9 (heap_keep (below1 w2 o) q0)
      have x0 := fun o => (x o).2.1
      have x1 := fun o => (x o).2.2.1
      have x2 := fun o => (x o).2.2.2.1
      have x3 := fun o => (x o).2.2.2.2.1
      have x4 := fun o => (x o).2.2.2.2.2.1
      have x5 := fun o => (x o).2.2.2.2.2.2.1
      have x6 := fun o => (x o).2.2.2.2.2.2.2.1
      have x7 := fun o => (x o).2.2.2.2.2.2.2.2.1
      have x8 := fun o => (x o).2.2.2.2.2.2.2.2.2
      have v0 := fun o => (x o).1.1
      have v1 := fun o => (x o).1.2.1
      have v2 := fun o => (x o).1.2.2.1
      have v3 := fun o => (x o).1.2.2.2.1
      have v4 := fun o => (x o).1.2.2.2.2.1
      have v5 := fun o => (x o).1.2.2.2.2.2.1
      have v6 := fun o => (x o).1.2.2.2.2.2.2.1
      have v7 := fun o => (x o).1.2.2.2.2.2.2.2.1
      have v8 := fun o => (x o).1.2.2.2.2.2.2.2.2
      clear x y q0 q1 hB hno hJ3 k0 k1 hBW
      simp only [vp]
      go_wp2
      subst hW3
      have hB9 := below9 (HK.out.1.mono (show w.heap.size ≤ wr.heap.size by omega)) (B := w.heap.size) (by omega) (.int .u64 (P.1.1 : Int)) (.int .u64 (P.1.2.1 : Int)) (.int .u64 (P.1.2.2.1 : Int)) (.int .u64 (P.1.2.2.2 : Int)) (.int .u64 (P.2.1.1 : Int)) (.int .u64 (P.2.1.2.1 : Int)) (.int .u64 (P.2.1.2.2.1 : Int)) (.int .u64 (P.2.1.2.2.2 : Int)) (.bool P.2.2)
      refine bodyPost_ret (results_cell_row rfl _ _ w.heap.size _ _ (0, 0) _ rfl (set9 HK.out.2.1 _ _ _ _ _ _ _ _ _) rfl rfl rfl) rfl ⟨P, t, s', uc', rfl, ⟨ss1, ts1, ⟨g, cap, by omega, (HS2.out.1.below HK.out.1).same (same9 _ w.heap.size _ _ _ _ _ _ _ _ _) (below9 (Below.refl base _) (by omega) _ _ _ _ _ _ _ _ _) (fun k hk e => by rcases hk with hk | hk | hk | hk <;> omega)⟩, HS2.out.2.2.1, HS2.out.2.2.2.1, HS2.out.2.2.2.2.1.kept hB9, HS2.out.2.2.2.2.2.1.trans (hB9.mono (by omega))⟩, hsz, RowAl.stop HS2.out.2.2.2.2.2.2.2.2.2.1 HK.out.2.2⟩
    · have hgn : g2 = g ∨ wr.heap.size ≤ g2 := hg2
      have hg3 : g2 = gb ∨ w.heap.size + 1 < g2 := by omega
      have hg4 : g = gb ∨ w.heap.size ≤ g := by omega
      have q0 := hsm.row HS2.out.2.2.2.2.2.2.1 (fun e => by rcases e with e | e | e | e <;> omega)
      have q1 := hsm.row HS2.out.2.2.2.2.2.2.2.1 (fun e => by rcases e with e | e | e | e <;> omega)
      have hz2 := hsm.1
      have hl2 := hR2.lt
      obtain ⟨W3, hW3⟩ : ∃ W3, W3 = w2.alloc (.cells (c9 P2) 118) := ⟨_, rfl⟩
      have hJ3 : Below w2.heap.size w2 W3 := by rw [hW3]; exact below1 _ _
      have q4 : W3.heap[w2.heap.size]? = some (.cells (c9 P2) 118 (0, 0)) := by rw [hW3]; exact heap_alloc_new w2 _
      have hz3 : w2.heap.size < W3.heap.size := by rw [hW3]; simp
      have hal := RowAl.piece HS2.out.2.2.2.2.2.2.2.2.2.1 hpost
      have HK : Hid (_ ∧ _ ∧ _ ∧ _ ∧ _ ∧ _ ∧ _ ∧ _ ∧ _ ∧ _) := ⟨hR2.below hJ3, hlaid, hpart, four_trans (four_trans HS2.out.2.2.2.2.1 hsm hg4) (four_below (gb := g2) hJ3) (by omega), (HS2.out.2.2.2.2.2.1.trans hbw).trans (hJ3.mono (by omega)), heap_keep hJ3 q0, heap_keep hJ3 q1, q4, hsz2, hal⟩
      clear hR2 hlaid hpart hsm hbw hpost q0 q1 q4 hal hJ3
      simp only [vp]
      go_wp2
      rw [← hW3]
      have HW3 : Hid _ := hW3
      clear hW3
      go_loopw [16] (fun _ wi => ∃ P2 t2 s2 ss2, Hid (Rdr wi base R X s2 n uc2 g2 cap2 gt ct ss2 ts2 ∧ Laid t2 ss1 ts1 ss2 ts2 ∧ IsPart P2 t2 ss1.length ∧ Same w wi (Four R X gb gt) ∧ Below base w wi ∧ wi.heap[w.heap.size]? = some (.cells z9 118 (0, 0)) ∧ wi.heap[w.heap.size + 1]? = some (.cells (c9 P) 118 (0, 0)) ∧ wi.heap[w2.heap.size]? = some (.cells (c9 P2) 118 (0, 0)) ∧ s2.size < s'.size ∧ PieAl n s uc s2 uc2 t t2 ∧ w2.heap.size < wi.heap.size)) (fun _ wi => restLen R wi)
      case atStart => exact ⟨P2, t2, s2, ss2, HK.out.1, HK.out.2.1, HK.out.2.2.1, HK.out.2.2.2.1, HK.out.2.2.2.2.1, HK.out.2.2.2.2.2.1, HK.out.2.2.2.2.2.2.1, HK.out.2.2.2.2.2.2.2.1, HK.out.2.2.2.2.2.2.2.2.1, HK.out.2.2.2.2.2.2.2.2.2, hz3⟩
      case round =>
        obtain ⟨P2, t2, s2, ss2, HU⟩ := hrel
        have HV : Hid (_ ∧ _ ∧ _ ∧ _ ∧ _ ∧ _ ∧ _ ∧ _ ∧ _ ∧ _ ∧ _) := HU.out
        clear HU
        have hv2 := HV.out.2.2.2.2.2.2.2.2.1
        have hvs := HV.out.2.2.2.2.2.2.2.2.2.2
        have HT : Hid (Calls Tryz.prog 84 #[.pointer (some ⟨R, 0, none⟩), .int .u8 42] wr _) := take_any R 42 s2 wr HV.out.1.cells.1.1 HV.out.1.cells.2.2.1.1
        go_wp2_with fail
        refine HT.out.mono ?_
        rintro e w4 (⟨s3, hc3, hsz3, rfl, hw4⟩ | ⟨hc3, rfl, hw4⟩)
        · have hR4 : Rdr w4 base R X s3 n uc2 g2 cap2 gt ct ss2 ts2 := by rw [hw4]; exact HV.out.1.rest s3 (by omega)
          have hS4 : Same wr w4 (Four R X g2 gt) := by rw [hw4]; exact four_set wr _
          have hB4 : Below base wr w4 := by rw [hw4]; exact (Below.refl base wr).setCell (p := ⟨R, 0, none⟩) hbs.2.1 _
          have k0 := hS4.row HV.out.2.2.2.2.2.1 (fun e => by rcases e with e | e | e | e <;> omega)
          have k1 := hS4.row HV.out.2.2.2.2.2.2.1 (fun e => by rcases e with e | e | e | e <;> omega)
          have k4 := hS4.row HV.out.2.2.2.2.2.2.2.1 (fun e => by rcases e with e | e | e | e <;> omega)
          have hz4 := hS4.1
          have hS5 := four_trans HV.out.2.2.2.1 hS4 (by omega)
          have hB5 := HV.out.2.2.2.2.1.trans hB4
          have HSt : Hid (Calls Tryz.prog 108 #[.pointer (some ⟨R, 0, none⟩), .agg (c9 P2)] w4 _) := starred_any base R X s3 n uc2 g2 cap2 gt ct ss2 ts2 P2 HV.out.2.2.1.ok1 HV.out.2.2.1.ok2 w4 hR4 (fun p hp => lst_lt HV.out.2.1 HV.out.2.2.1 hp)
          have HA : Hid (_ ∧ _ ∧ _ ∧ _ ∧ _) := ⟨k0, k1, k4, hS5, hB5⟩
          have HC3 : Hid _ := hc3
          obtain ⟨⟨d0, d1, d2, d3, d4, d5, d6, d7, d8⟩, _⟩ := row9 k4
          clear hw4 hR4 hS4 hB4 k0 k1 k4 hS5 hB5 hc3
          go_wp2_with fail
          refine HSt.out.mono ?_
          rintro e w5 ⟨rfl, hR5, hS5, hB5⟩
          have hS6 : Same w4 w5 (Four R X g2 gt) := hS5.mono fun k _ e => .inr (.inr (.inl e))
          have k0 := hS6.row HA.out.1 (fun e => by rcases e with e | e | e | e <;> omega)
          have k1 := hS6.row HA.out.2.1 (fun e => by rcases e with e | e | e | e <;> omega)
          have k4 := hS6.row HA.out.2.2.1 (fun e => by rcases e with e | e | e | e <;> omega)
          have hz5 := hS6.1
          have hs9 := same9 w5 w2.heap.size (.int .u64 (P2.1.1 : Int)) (.int .u64 (P2.1.2.1 : Int)) (.int .u64 (P2.1.2.2.1 : Int)) (.int .u64 (P2.1.2.2.2 : Int)) (.int .u64 (P2.2.1.1 : Int)) (.int .u64 (P2.2.1.2.1 : Int)) (.int .u64 (P2.2.1.2.2.1 : Int)) (.int .u64 (P2.2.1.2.2.2 : Int)) (.bool true)
          have hB9 := below9 (Below.refl w.heap.size w5) (B := w2.heap.size) (by omega) (.int .u64 (P2.1.1 : Int)) (.int .u64 (P2.1.2.1 : Int)) (.int .u64 (P2.1.2.2.1 : Int)) (.int .u64 (P2.1.2.2.2 : Int)) (.int .u64 (P2.2.1.1 : Int)) (.int .u64 (P2.2.1.2.1 : Int)) (.int .u64 (P2.2.1.2.2.1 : Int)) (.int .u64 (P2.2.1.2.2.2 : Int)) (.bool true)
          have n4 := set9 k4 (.int .u64 (P2.1.1 : Int)) (.int .u64 (P2.1.2.1 : Int)) (.int .u64 (P2.1.2.2.1 : Int)) (.int .u64 (P2.1.2.2.2 : Int)) (.int .u64 (P2.2.1.1 : Int)) (.int .u64 (P2.2.1.2.1 : Int)) (.int .u64 (P2.2.1.2.2.1 : Int)) (.int .u64 (P2.2.1.2.2.2 : Int)) (.bool true)
          have hR9 := hR5.same hs9 (hB9.mono (by omega)) (fun k hk e => by rcases hk with hk | hk | hk | hk <;> omega)
          have HN : Hid (_ ∧ _ ∧ _ ∧ _ ∧ _ ∧ _ ∧ _ ∧ _ ∧ _ ∧ _ ∧ _) := ⟨hR9, HV.out.2.1.star HV.out.2.2.1, HV.out.2.2.1.star, (four_trans HA.out.2.2.2.1 hS6 (by omega)).kept hB9, (HA.out.2.2.2.2.trans hB5).trans (hB9.mono (by omega)), hs9.row k0 (by omega), hs9.row k1 (by omega), n4, (by omega : s3.size < s'.size), HV.out.2.2.2.2.2.2.2.2.2.1.star HC3.out, Nat.lt_of_lt_of_le (by omega : w2.heap.size < w5.heap.size) hs9.1⟩
          obtain ⟨_, t0, t1, t2, t3, t4, t5, t6, t7, t8⟩ := row9 k4
          have HM : Hid (_ ∧ _) := ⟨hR9.left, HV.out.1.left⟩
          clear hR5 hS5 hB5 hS6 k0 k1 k4 hs9 hB9 n4 hR9 d0 d1 d2 d3 d4 d5 d6 d7 d8
          simp only [vp, star4]
          go_wp2
          go_roundw
          case rel => exact ⟨_, _, _, _, HN.out⟩
          case measure =>
            rw [HM.out.2]
            exact Nat.lt_of_le_of_lt (Nat.le_of_eq HM.out.1) (by omega)
        · subst hw4
          have HJn : Hid (Calls Tryz.prog 55 #[.pointer (some ⟨R, 0, none⟩), .agg (c9 P), .agg (c9 P2)] w4 _) := joined_any base R X s2 n uc2 g2 cap2 gt ct ss2 ts2 P P2 HS2.out.2.2.2.1.ok1 HS2.out.2.2.2.1.ok2 HV.out.2.2.1.ok1 HV.out.2.2.1.ok2 w4 HV.out.1 (fun p hp => by have := lst_lt HS2.out.2.2.1 HS2.out.2.2.2.1 hp; have := HV.out.2.1.len; omega)
          have HC3 : Hid _ := hc3
          obtain ⟨⟨c0, c1, c2, c3, c4, c5, c6, c7, c8⟩, _⟩ := row9 HV.out.2.2.2.2.2.2.1
          obtain ⟨⟨d0, d1, d2, d3, d4, d5, d6, d7, d8⟩, _⟩ := row9 HV.out.2.2.2.2.2.2.2.1
          clear hc3
          go_wp2_with fail
          refine HJn.out.mono ?_
          rintro e w5 ⟨rfl, hR5, hS5, hB5⟩
          have hS6 : Same w4 w5 (Four R X g2 gt) := hS5.mono fun k _ e => .inr (.inr (.inl e))
          have k0 := hS6.row HV.out.2.2.2.2.2.1 (fun e => by rcases e with e | e | e | e <;> omega)
          have k1 := hS6.row HV.out.2.2.2.2.2.2.1 (fun e => by rcases e with e | e | e | e <;> omega)
          have hz5 := hS6.1
          have hlc := HS2.out.2.2.1.cat HV.out.2.1 HS2.out.2.2.2.1 HV.out.2.2.1
          have hpc := HS2.out.2.2.2.1.cat (by rw [← HS2.out.2.2.1.len]; exact HV.out.2.2.1)
          obtain ⟨J, hJe⟩ : ∃ J, join4 P P2 = J := ⟨_, rfl⟩
          rw [hJe] at hpc ⊢
          have hs9 := same9 w5 (w.heap.size + 1) (.int .u64 (J.1.1 : Int)) (.int .u64 (J.1.2.1 : Int)) (.int .u64 (J.1.2.2.1 : Int)) (.int .u64 (J.1.2.2.2 : Int)) (.int .u64 (J.2.1.1 : Int)) (.int .u64 (J.2.1.2.1 : Int)) (.int .u64 (J.2.1.2.2.1 : Int)) (.int .u64 (J.2.1.2.2.2 : Int)) (.bool J.2.2)
          have hB9 := below9 (Below.refl w.heap.size w5) (B := w.heap.size + 1) (by omega) (.int .u64 (J.1.1 : Int)) (.int .u64 (J.1.2.1 : Int)) (.int .u64 (J.1.2.2.1 : Int)) (.int .u64 (J.1.2.2.2 : Int)) (.int .u64 (J.2.1.1 : Int)) (.int .u64 (J.2.1.2.1 : Int)) (.int .u64 (J.2.1.2.2.1 : Int)) (.int .u64 (J.2.1.2.2.2 : Int)) (.bool J.2.2)
          have n1 := set9 k1 (.int .u64 (J.1.1 : Int)) (.int .u64 (J.1.2.1 : Int)) (.int .u64 (J.1.2.2.1 : Int)) (.int .u64 (J.1.2.2.2 : Int)) (.int .u64 (J.2.1.1 : Int)) (.int .u64 (J.2.1.2.1 : Int)) (.int .u64 (J.2.1.2.2.1 : Int)) (.int .u64 (J.2.1.2.2.2 : Int)) (.bool J.2.2)
          have hR9 := hR5.same hs9 (hB9.mono (by omega)) (fun k hk e => by rcases hk with hk | hk | hk | hk <;> omega)
          have HN : Hid (_ ∧ _ ∧ _ ∧ _ ∧ _ ∧ _ ∧ _ ∧ _ ∧ _ ∧ _ ∧ _) := ⟨hR9, hg3, hlc, hpc, (four_trans HV.out.2.2.2.1 hS6 (by omega)).kept hB9, (HV.out.2.2.2.2.1.trans hB5).trans (hB9.mono (by omega)), hs9.row k0 (by omega), n1, (by omega : s2.size ≤ s.size), HV.out.2.2.2.2.2.2.2.2.2.1.join HC3.out, Nat.lt_of_lt_of_le (by omega : w.heap.size + 1 < w5.heap.size) hs9.1⟩
          obtain ⟨_, t0, t1, t2, t3, t4, t5, t6, t7, t8⟩ := row9 k1
          have HM : Hid (_ ∧ _) := ⟨hR9.left, HS2.out.1.left⟩
          clear hR5 hS5 hB5 hS6 k0 k1 hs9 hB9 n1 hR9 hlc hpc c0 c1 c2 c3 c4 c5 c6 c7 c8 d0 d1 d2 d3 d4 d5 d6 d7 d8
          simp only [vp]
          go_wp2
          go_roundw
          case rel => exact ⟨_, _, _, _, _, _, _, _, HN.out⟩
          case measure =>
            rw [HM.out.2]
            exact Nat.lt_of_le_of_lt (Nat.le_of_eq HM.out.1) (by omega)
end Go.Proofs.YtphjbbbnbmafnabGreatDoor.G
