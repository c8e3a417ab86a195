/-
  The document's own bits of a graph (trellisref.bits), over edges in order that lie in memory: the bits of the graph, with 0 up to whole pages; nothing that was there is written.
-/
import Derived.Test.YtphjbbbnbmafnaaGreatDoorPText
import Derived.Test.YtphjbbbnbmafnaaGreatDoorOwnM
namespace Go.Proofs.YtphjbbbnbmafnaaGreatDoor.G
open Go.RowKit

theorem txt_append (l m : List Bool) : txt l ++ txt m = txt (l ++ m) := by
  apply ByteArray.ext
  simp [txt]
/-- bits in a row of bytes of one's own -/
def BM (w wr : World) (v : Value) (L : List Bool) : Prop := OwnM wr w.heap.size 5 v (valsT L) ∧ Below w.heap.size w wr
theorem BM.step {w wr w2 : World} {v v' : Value} {L M : List Bool} (h : BM w wr v L) (ho : OwnM w2 w.heap.size 5 v' (valsT L ++ valsT M)) (hg : wr.grownBy w2 v.ownBlock) : BM w w2 v' (L ++ M) :=
  ⟨by rw [valsT_append]; exact ho, h.2.grown hg h.2.size (fun k hk => h.1.lt k hk)⟩
theorem BM.step' {w wr w2 : World} {v v' : Value} {L M : List Bool} {o : Obj} (h : BM w wr v L) (ho : OwnM w2 w.heap.size 5 v' (valsT L ++ valsT M)) (hg : (wr.alloc o).grownBy w2 v.ownBlock) : BM w w2 v' (L ++ M) :=
  ⟨by rw [valsT_append]; exact ho, (h.2.alloc h.2.size o).grown hg (by have := h.2.size; simp; omega) (fun k hk => h.1.lt k hk)⟩
theorem conv_start (w wr : World) (L : List Bool) (hB : Below w.heap.size w wr) (hl : L.length ≤ 1000) :
    ∃ v w2, (convert 9 113 (.string (txt L))).run Tryz.prog wr = .ok v w2 ∧ BM w w2 v L := by
  refine ⟨_, _, run_bytes_of_string (P := Tryz.prog) wr 9 113 5 (txt L) Tryz.underlying9 Tryz.underlying113 Tryz.underlying5, ?_, (hB.drew).alloc hB.size _⟩
  have hge := grownCap_ge wr (txt L).size 0 5
  have hts := txt_size L
  have hsz : (bytesRow (txt L) (grownCap wr (txt L).size 0 5)).size = grownCap wr (txt L).size 0 5 := by
    unfold bytesRow
    rw [Array.size_append, Array.size_map, Array.size_replicate, show (txt L).data.size = (txt L).size from rfl]
    omega
  refine ⟨wr.heap.size, grownCap wr (txt L).size 0 5, _, _, by rw [valsT_len, hts], hB.size, heap_alloc_new wr.drew _, fun j hj h => ?_, by rw [valsT_len, ← hts]; exact hge, grownCap_le_maxLen wr _ 0 _ (by rw [hts]; unfold maxLen; omega), hsz, ?_⟩
  · rw [hsz] at h; simp only at h; omega
  · unfold bytesRow
    rw [Array.toList_append, List.take_append_of_le_length (by simp [valsT, txt]), List.take_of_length_le (by simp [valsT, txt])]
    have := strT L
    unfold Lib.strCells at this
    simpa using this
theorem conv_end {w wr : World} {v : Value} {L : List Bool} (h : BM w wr v L) : ∃ g cap, v = .slice (some ⟨g, 0, none⟩) L.length cap ∧ (convert 113 9 (.slice (some ⟨g, 0, none⟩) L.length cap)).run Tryz.prog wr = .ok (.string (txt L)) wr := by
  obtain ⟨g, cap, cur, fz, rfl, _, hg, _, _, _, _, ht⟩ := h.1
  rw [valsT_len]
  refine ⟨g, cap, rfl, ?_⟩
  have := run_convert_bytes_back (P := Tryz.prog) wr 113 9 5 ⟨g, 0, none⟩ cap (L.map fun b => if b then (49 : UInt8) else 48) Tryz.underlying113 Tryz.underlying5 Tryz.underlying9 (fun j hj => by
    have hjl : j < L.length := by simpa using hj
    refine ownM_cells hg ht j _ ?_
    unfold valsT
    rw [List.getElem?_map, List.getElem?_eq_getElem hjl]
    simp only [Option.map_some, List.getElem_map]
    cases L[j] <;> rfl)
  rw [List.length_map] at this
  exact this
def lenV : Value → Nat
  | .slice _ n _ => n
  | _ => 0
/-- 0 up to whole pages -/
def padN (k : Nat) : Nat := (2016 - k % 2016) % 2016
def padB (L : List Bool) : List Bool := L ++ List.replicate (padN L.length) false
theorem padB_len (L : List Bool) : (padB L).length = 2016 * npages L.length := by
  unfold padB padN npages
  simp
  omega
set_option maxHeartbeats 8000000 in
set_option maxRecDepth 100000 in
theorem rbits_any (n s : Nat) (l : List E3) (v : Value) (w : World) (he : EdgesAt w v l) (hst : Gm.Strict l) (hok : ∀ e ∈ l, Gm.edgeOk n s e) (hn : 1 ≤ n) (hn2 : n ≤ 10000) (hs : 1 ≤ s) (hs2 : s ≤ 26) (hl : l.length ≤ 20000) :
    Calls Tryz.prog 54 #[.int .i64 (n : Int), .int .i64 (s : Int), v] w fun e w' => e = .returned (.string (txt (padB (gbits n s l)))) ∧ Below w.heap.size w w' := by
  have h0 : Gm.ah l 0 = 0 := Gm.ah_zero l (fun e h => (hok e h).1)
  have hall : Gm.ah l n = l.length := Gm.ah_all l n (fun e h => (hok e h).2.1)
  have hw1 := wid_le (s - 1) (by omega)
  have hw2 := wid_le (n - 1) (by omega)
  have HOk : Hid _ := hok
  have HR : Hid _ := Gm.strict_rising hst
  have HL : ∀ u, Hid ((srcs l u).length = Gm.ah l u + u) := fun u => srcs_len l h0 u
  have HA : Hid _ := h0
  have HAll : Hid _ := hall
  obtain ⟨i0, hi, hz0, hz1, hz2⟩ := info_parts Tryz.infoB
  obtain ⟨a0, cap, rfl, hed⟩ := he
  have HE : Hid _ := hed
  have HD1 : ∀ W, Hid (Calls Tryz.prog 61 #[.int .i64 (n : Int), .int .i64 14] W _) := fun W => digits_any n 14 (by omega) (by decide) W
  have HD2 : ∀ W, Hid (Calls Tryz.prog 61 #[.int .i64 (s : Int), .int .i64 5] W _) := fun W => digits_any s 5 (by omega) (by decide) W
  have HD3 : ∀ W, Hid (Calls Tryz.prog 61 #[.int .i64 (l.length : Int), .int .i64 15] W _) := fun W => digits_any l.length 15 (by omega) (by decide) W
  have z14 : (txt (digs 14 n)).size = 14 := by rw [txt_size, digs_len]
  have z5 : (txt (digs 5 s)).size = 5 := by rw [txt_size, digs_len]
  have z15 : (txt (digs 15 l.length)).size = 15 := by rw [txt_size, digs_len]
  have z19 : (txt (digs 14 n) ++ txt (digs 5 s)).size = 19 := by rw [txt_append, txt_size, List.length_append, digs_len, digs_len]
  clear hed h0 hall hst hok
  go_enter Tryz.func54, Tryz.ntmps54
  go_wp2_with fail
  refine (Calls.mono (HD1 _).out ?_)
  rintro e w1 ⟨rfl, hB1⟩
  have H1 : Hid _ := hB1
  clear hB1
  go_wp2_with fail
  refine (Calls.mono (HD2 _).out ?_)
  rintro e w2 ⟨rfl, hB2⟩
  have H2 : Hid _ := chain H1.out hB2
  clear hB2
  go_wp2_with fail
  refine (Calls.mono (HD3 _).out ?_)
  rintro e w3 ⟨rfl, hB3⟩
  have H3 : Hid _ := chain H2.out hB3
  clear hB3
  obtain ⟨vb, w4, hcv, hbm⟩ := conv_start w w3 (digs 14 n ++ digs 5 s ++ digs 15 l.length) H3.out (by simp [digs_len])
  rw [← txt_append, ← txt_append] at hcv
  have HM0 : Hid _ := hbm
  have hT0 : (digs 14 n ++ digs 5 s ++ digs 15 l.length).length = 34 := by simp [digs_len]
  have HG : Hid (gbits n s l = digs 14 n ++ digs 5 s ++ digs 15 l.length ++ srcs l n ++ nums (wid (s - 1)) (labs l) ++ nums (wid (n - 1)) (tos l)) := (rfl : gbits n s l = _)
  generalize digs 14 n ++ digs 5 s ++ digs 15 l.length = T0 at HM0 hbm hT0 HG
  clear hbm
  go_wp2
  go_loopw [7, 8, 9] (fun sb sa su wr => ∃ u : Nat, u ≤ n ∧ su = .int .i64 (u : Int) ∧ sa = .int .i64 (Gm.ah l u : Int) ∧ Hid (BM w wr sb (T0 ++ srcs l u))) (fun _ _ su _ => n - (intOf su).toNat)
  case atStart => exact ⟨0, Nat.zero_le _, rfl, by rw [HA.out]; rfl, by rw [show T0 ++ srcs l 0 = T0 from List.append_nil T0]; exact HM0.out⟩
  case round =>
    obtain ⟨u, hu, rfl, rfl, HI⟩ := hrel
    obtain ⟨vb1, rfl⟩ : ∃ vb1, vb1 = u7 := ⟨u7, rfl⟩
    by_cases hlt : u < n
    · have hm := Gm.ah_mono l (show u ≤ u + 1 by omega)
      have hle := Gm.ah_le l (u + 1)
      have hsl := (HL u).out
      have HS : Hid (srcs l (u + 1) = srcs l u ++ (List.replicate (Gm.ah l (u + 1) - Gm.ah l u) true ++ [false])) := (rfl : srcs l (u + 1) = _)
      have HAt : Hid (∀ i e, l[i]? = some e → Gm.ah l u ≤ i → (e.1 = (u : Int) ↔ i < Gm.ah l (u + 1))) := (fun i e hie hi => by
        have h1 := Gm.ah_at l u i e HR.out hie
        have h2 := Gm.ah_at l (u + 1) i e HR.out hie
        omega : ∀ i e, l[i]? = some e → Gm.ah l u ≤ i → (e.1 = (u : Int) ↔ i < Gm.ah l (u + 1)))
      generalize ha : Gm.ah l u = a at hm hsl HS HAt
      generalize hb : Gm.ah l (u + 1) = b at hm hle HS HAt
      have HBq : Hid _ := hb
      clear ha hb
      go_wp2
      go_loopw [7, 8] (fun sb sa wq => ∃ j : Nat, j ≤ b - a ∧ sa = .int .i64 ((a + j : Nat) : Int) ∧ Hid (BM w wq sb (T0 ++ srcs l u ++ List.replicate j true))) (fun _ sa _ => b - (intOf sa).toNat)
      case atStart => exact ⟨0, Nat.zero_le _, rfl, by rw [show T0 ++ srcs l u ++ List.replicate 0 true = T0 ++ srcs l u by simp]; exact HI.out⟩
      case round =>
        obtain ⟨j, hj, rfl, HJ⟩ := hrel
        obtain ⟨vb2, rfl⟩ : ∃ vb2, vb2 = u7 := ⟨u7, rfl⟩
        have hown := HJ.out.1
        have hbs := HJ.out.2.size
        have hTl : (valsT (T0 ++ srcs l u ++ List.replicate j true)).length ≤ 100000 := by rw [valsT_len]; simp; omega
        generalize hLJ : T0 ++ srcs l u ++ List.replicate j true = LJ at HJ hown hTl
        have HLJ : Hid _ := hLJ
        clear hLJ
        by_cases hlt2 : a + j < b
        · obtain ⟨x, hx⟩ : ∃ x, l[a + j]? = some x := ⟨_, List.getElem?_eq_getElem (by omega)⟩
          obtain ⟨g, off, rfl, c0, c1, c2⟩ := HE.out (a + j) x hx
          have hfrom := (HAt.out (a + j) x hx (by omega)).2 hlt2
          have d0 := cell_kept HJ.out.2 _ _ c0
          rw [hfrom] at d0
          have hjl : ((a + j : Nat) : Int) < (l.length : Int) := by omega
          clear c0 c1 c2 hx hfrom
          go_wp2_with (at_builtin; refine wpList_app_sl _ rfl _ _ 113 rfl w.heap.size 5 i0 Tryz.underlying113 hi hz0 hz1 hz2 _ _ rfl (hown.alloc _) ⟨wr.heap.size, 0, none⟩ 1 1 (valsT [true]) rfl rfl (src1 _ _ _) (by intro u hu; simp [valsT] at hu; subst hu; rfl) (by unfold maxLen; omega) (by omega) (by simp; omega) ?_)
          intro v' w2 hown' hgrow
          have HJ2 : Hid (BM w w2 v' (T0 ++ srcs l u ++ List.replicate (j + 1) true)) := (by
            rw [List.replicate_succ', ← List.append_assoc, HLJ.out]
            exact BM.step' HJ.out hown' hgrow : BM _ _ _ _)
          clear hown' hgrow hown
          go_wp2
          go_roundw
          case rel => exact ⟨j + 1, by omega, by go_num, HJ2.out⟩
          case measure => simp [intOf] <;> omega
        · have hjb0 : a + j = b := by omega
          have HJB : Hid (a + j = b) := hjb0
          have HS2 : Hid (T0 ++ srcs l (u + 1) = T0 ++ srcs l u ++ List.replicate j true ++ [false]) := (by
            rw [HS.out, show b - a = j by omega]; simp : _ = _)
          clear hjb0
          by_cases hend : a + j < l.length
          · obtain ⟨x, hx⟩ : ∃ x, l[a + j]? = some x := ⟨_, List.getElem?_eq_getElem hend⟩
            obtain ⟨g, off, rfl, c0, c1, c2⟩ := HE.out (a + j) x hx
            have hfrom : ¬ x.1 = (u : Int) := fun e => hlt2 ((HAt.out (a + j) x hx (by omega)).1 e)
            have hfb : (x.1 == (u : Int)) = false := by simpa using hfrom
            have d0 := cell_kept HJ.out.2 _ _ c0
            have hjl : ((a + j : Nat) : Int) < (l.length : Int) := by omega
            obtain ⟨x1, x2, x3⟩ := x
            simp only at d0 hfb hfrom
            clear c0 c1 c2 hx
            go_wp2_with (at_builtin; refine wpList_app_sl _ rfl _ _ 113 rfl w.heap.size 5 i0 Tryz.underlying113 hi hz0 hz1 hz2 _ _ rfl (hown.alloc _) ⟨wr.heap.size, 0, none⟩ 1 1 (valsT [false]) rfl rfl (src1 _ _ _) (by intro u hu; simp [valsT] at hu; subst hu; rfl) (by unfold maxLen; omega) (by omega) (by simp; omega) ?_)
            intro v' w2 hown' hgrow
            have HJ2 : Hid (BM w w2 v' (T0 ++ srcs l (u + 1))) := (by
              rw [HS2.out, HLJ.out]
              exact BM.step' HJ.out hown' hgrow : BM _ _ _ _)
            clear hown' hgrow hown
            go_wp2
            go_roundw
            case rel => exact ⟨u + 1, by omega, by go_num, by rw [HBq.out, ← HJB.out]; go_num, HJ2.out⟩
            case measure => simp [intOf] <;> omega
          · have hjl : ¬ ((a + j : Nat) : Int) < (l.length : Int) := by omega
            go_wp2_with (at_builtin; refine wpList_app_sl _ rfl _ _ 113 rfl w.heap.size 5 i0 Tryz.underlying113 hi hz0 hz1 hz2 _ _ rfl (hown.alloc _) ⟨wr.heap.size, 0, none⟩ 1 1 (valsT [false]) rfl rfl (src1 _ _ _) (by intro u hu; simp [valsT] at hu; subst hu; rfl) (by unfold maxLen; omega) (by omega) (by simp; omega) ?_)
            intro v' w2 hown' hgrow
            have HJ2 : Hid (BM w w2 v' (T0 ++ srcs l (u + 1))) := (by
              rw [HS2.out, HLJ.out]
              exact BM.step' HJ.out hown' hgrow : BM _ _ _ _)
            clear hown' hgrow hown
            go_wp2
            go_roundw
            case rel => exact ⟨u + 1, by omega, by go_num, by rw [HBq.out, ← HJB.out]; go_num, HJ2.out⟩
            case measure => simp [intOf] <;> omega
    · obtain rfl : u = n := by omega
      have hsl := (HL u).out
      rw [HAll.out] at hsl
      have H5 : Hid _ := HI.out
      have hT5 : (T0 ++ srcs l u).length ≤ 40000 := by rw [List.length_append]; omega
      generalize T0 ++ srcs l u = T5 at H5 hT5 HG
      have HWd1 : ∀ W, Hid (Calls Tryz.prog 96 #[.int .i64 (s : Int)] W _) := fun W => width_any s hs (by omega) W
      have HWd2 : ∀ W, Hid (Calls Tryz.prog 96 #[.int .i64 (u : Int)] W _) := fun W => width_any u hn (by omega) W
      clear hsl HI HL HM0
      go_wp2_with fail
      refine (Calls.mono (HWd1 _).out ?_)
      rintro e wx ⟨rfl, hw⟩
      rw [hw]
      clear hw wx
      go_wp2
      go_loopw [7, 11] (fun sb si wr => ∃ i : Nat, i ≤ l.length ∧ si = .int .i64 (i : Int) ∧ Hid (BM w wr sb (T5 ++ nums (wid (s - 1)) ((labs l).take i)))) (fun _ si _ => l.length - (intOf si).toNat)
      case atStart => exact ⟨0, Nat.zero_le _, rfl, by rw [show T5 ++ nums (wid (s - 1)) ((labs l).take 0) = T5 by simp [nums]]; exact H5.out⟩
      case round =>
        obtain ⟨i, hi1, rfl, HI⟩ := hrel
        obtain ⟨vb3, rfl⟩ : ∃ vb3, vb3 = u7 := ⟨u7, rfl⟩
        by_cases hlt1 : i < l.length
        · obtain ⟨x, hx⟩ : ∃ x, l[i]? = some x := ⟨_, List.getElem?_eq_getElem hlt1⟩
          obtain ⟨g, off, rfl, c0, c1, c2⟩ := HE.out i x hx
          have d1 := cell_kept HI.out.2 _ _ c1
          have hxo := HOk.out x (List.mem_of_getElem? hx)
          have HN : Hid _ := nums_take (k := wid (s - 1)) (labs_at hx)
          have hnl := nums_take_len (wid (s - 1)) (labs l) i
          have hll : (labs l).length = l.length := by simp [labs]
          rw [hll] at hnl
          have hmul : wid (s - 1) * l.length ≤ 20 * 20000 := Nat.mul_le_mul hw1 hl
          obtain ⟨x1, x2, x3⟩ := x
          obtain ⟨y, hy⟩ : ∃ y : Nat, x2 = (y : Int) := ⟨x2.toNat, by have := hxo.2.2.1; simp only at this; omega⟩
          subst hy
          have hyl : y < 26 := by have := hxo.2.2.2.1; simp only at this; omega
          simp only [Int.toNat_natCast] at d1 HN
          have hiI : (i : Int) < (l.length : Int) := by omega
          have HDg : Hid (Calls Tryz.prog 61 _ wr _) := digits_any y (wid (s - 1)) (by omega) (by omega) wr
          have hTl : (T5 ++ nums (wid (s - 1)) ((labs l).take i)).length ≤ 500000 := by rw [List.length_append]; omega
          generalize hLJ : T5 ++ nums (wid (s - 1)) ((labs l).take i) = LJ at HI hTl
          have HLJ : Hid _ := hLJ
          have hdz : (txt (digs (wid (s - 1)) y)).size = wid (s - 1) := by rw [txt_size, digs_len]
          clear c0 c1 c2 hx hxo hLJ hmul hnl hll
          go_wp2_with fail
          refine (Calls.mono HDg.out ?_)
          rintro e wy ⟨rfl, hBy⟩
          have HI1 : Hid (BM w wy vb3 LJ) := ⟨HI.out.1.below hBy, chain HI.out.2 hBy⟩
          have hown := HI1.out.1
          have hbs := HI1.out.2.size
          clear hBy
          go_wp2_with (at_builtin; refine wpList_app_str _ rfl _ _ 113 9 rfl w.heap.size 5 i0 Tryz.underlying113 Tryz.underlying9 hi hz0 hz1 hz2 _ _ rfl hown (txt (digs (wid (s - 1)) y)) rfl (by rw [valsT_len, hdz]; unfold maxLen; omega) (by rw [valsT_len, hdz]; omega) hbs ?_)
          intro v' w2 hown' hgrow
          rw [strT] at hown'
          have HJ2 : Hid (BM w w2 v' (T5 ++ nums (wid (s - 1)) ((labs l).take (i + 1)))) := (by
            rw [HN.out, ← List.append_assoc, HLJ.out]
            exact BM.step HI1.out hown' hgrow : BM _ _ _ _)
          clear hown' hgrow hown
          go_wp2
          go_roundw
          case rel => exact ⟨i + 1, by omega, by go_num, HJ2.out⟩
          case measure => simp [intOf] <;> omega
        · obtain rfl : i = l.length := by omega
          have hI := HI.out
          rw [List.take_of_length_le (by simp [labs])] at hI
          have H6 : Hid _ := hI
          have hll : (labs l).length = l.length := by simp [labs]
          have hmul : wid (s - 1) * l.length ≤ 20 * 20000 := Nat.mul_le_mul hw1 hl
          have hT6 : (T5 ++ nums (wid (s - 1)) (labs l)).length ≤ 500000 := by rw [List.length_append, nums_len, hll]; omega
          clear hI HI H5 hll hmul
          generalize T5 ++ nums (wid (s - 1)) (labs l) = T6 at H6 hT6 HG
          go_wp2_with fail
          refine (Calls.mono (HWd2 _).out ?_)
          rintro e wx ⟨rfl, hw⟩
          rw [hw]
          clear hw wx
          go_wp2
          go_loopw [7, 12] (fun sb si wr => ∃ i : Nat, i ≤ l.length ∧ si = .int .i64 (i : Int) ∧ Hid (BM w wr sb (T6 ++ nums (wid (u - 1)) ((tos l).take i)))) (fun _ si _ => l.length - (intOf si).toNat)
          case atStart => exact ⟨0, Nat.zero_le _, rfl, by rw [show T6 ++ nums (wid (u - 1)) ((tos l).take 0) = T6 by simp [nums]]; exact H6.out⟩
          case round =>
            obtain ⟨i, hi1, rfl, HI⟩ := hrel
            obtain ⟨vb4, rfl⟩ : ∃ vb4, vb4 = u7 := ⟨u7, rfl⟩
            by_cases hlt1 : i < l.length
            · obtain ⟨x, hx⟩ : ∃ x, l[i]? = some x := ⟨_, List.getElem?_eq_getElem hlt1⟩
              obtain ⟨g, off, rfl, c0, c1, c2⟩ := HE.out i x hx
              have d2 := cell_kept HI.out.2 _ _ c2
              have hxo := HOk.out x (List.mem_of_getElem? hx)
              have HN : Hid _ := nums_take (k := wid (u - 1)) (tos_at hx)
              have hnl := nums_take_len (wid (u - 1)) (tos l) i
              have hll : (tos l).length = l.length := by simp [tos]
              rw [hll] at hnl
              have hmul : wid (u - 1) * l.length ≤ 20 * 20000 := Nat.mul_le_mul hw2 hl
              obtain ⟨x1, x2, x3⟩ := x
              obtain ⟨y, hy⟩ : ∃ y : Nat, x3 = (y : Int) := ⟨x3.toNat, by have := hxo.2.2.2.2.1; simp only at this; omega⟩
              subst hy
              have hyl : y < 10000 := by have := hxo.2.2.2.2.2; simp only at this; omega
              simp only [Int.toNat_natCast] at d2 HN
              have hiI : (i : Int) < (l.length : Int) := by omega
              have HDg : Hid (Calls Tryz.prog 61 _ wr _) := digits_any y (wid (u - 1)) (by omega) (by omega) wr
              have hTl : (T6 ++ nums (wid (u - 1)) ((tos l).take i)).length ≤ 1000000 := by rw [List.length_append]; omega
              generalize hLJ : T6 ++ nums (wid (u - 1)) ((tos l).take i) = LJ at HI hTl
              have HLJ : Hid _ := hLJ
              have hdz : (txt (digs (wid (u - 1)) y)).size = wid (u - 1) := by rw [txt_size, digs_len]
              clear c0 c1 c2 hx hxo hLJ hmul hnl hll
              go_wp2_with fail
              refine (Calls.mono HDg.out ?_)
              rintro e wy ⟨rfl, hBy⟩
              have HI1 : Hid (BM w wy vb4 LJ) := ⟨HI.out.1.below hBy, chain HI.out.2 hBy⟩
              have hown := HI1.out.1
              have hbs := HI1.out.2.size
              clear hBy
              go_wp2_with (at_builtin; refine wpList_app_str _ rfl _ _ 113 9 rfl w.heap.size 5 i0 Tryz.underlying113 Tryz.underlying9 hi hz0 hz1 hz2 _ _ rfl hown (txt (digs (wid (u - 1)) y)) rfl (by rw [valsT_len, hdz]; unfold maxLen; omega) (by rw [valsT_len, hdz]; omega) hbs ?_)
              intro v' w2 hown' hgrow
              rw [strT] at hown'
              have HJ2 : Hid (BM w w2 v' (T6 ++ nums (wid (u - 1)) ((tos l).take (i + 1)))) := (by
                rw [HN.out, ← List.append_assoc, HLJ.out]
                exact BM.step HI1.out hown' hgrow : BM _ _ _ _)
              clear hown' hgrow hown
              go_wp2
              go_roundw
              case rel => exact ⟨i + 1, by omega, by go_num, HJ2.out⟩
              case measure => simp [intOf] <;> omega
            · obtain rfl : i = l.length := by omega
              have hI := HI.out
              rw [List.take_of_length_le (by simp [tos]), ← HG.out] at hI
              have H7 : Hid _ := hI
              have hll : (tos l).length = l.length := by simp [tos]
              have hmul : wid (u - 1) * l.length ≤ 20 * 20000 := Nat.mul_le_mul hw2 hl
              have hT7 : (gbits u s l).length ≤ 1000000 := by rw [HG.out, List.length_append, nums_len, hll]; omega
              clear hI HI H6 hll hmul
              generalize hTe : gbits u s l = T7 at H7 hT7 HG
              have HTe : Hid _ := hTe
              clear HG hTe
              go_wp2
              go_loopw [7] (fun sb wr => ∃ j : Nat, j ≤ padN T7.length ∧ Hid (BM w wr sb (T7 ++ List.replicate j false))) (fun sb _ => padN (lenV sb))
              case atStart => exact ⟨0, Nat.zero_le _, by rw [List.replicate_zero, List.append_nil]; exact H7.out⟩
              case round =>
                obtain ⟨j, hj, HJ⟩ := hrel
                have hbm := HJ.out
                obtain ⟨g7, cap7, hv7, hcv7⟩ := conv_end hbm
                have hll : (T7 ++ List.replicate j false).length = T7.length + j := by simp
                rw [hll] at hv7 hcv7
                subst hv7
                have hpl : padN T7.length < 2016 := Nat.mod_lt _ (by decide)
                by_cases hlt1 : j < padN T7.length
                · have hnz : ((T7.length + j : Nat) : Int) % 2016 ≠ 0 := by unfold padN at hlt1; omega
                  have hnz2 : (((T7.length + j : Nat) : Int) % 2016 != 0) = true := by simpa using hnz
                  have htm : ((T7.length + j : Nat) : Int).tmod 2016 = ((T7.length + j : Nat) : Int) % 2016 := Int.tmod_eq_emod_of_nonneg (by omega)
                  have hown := hbm.1
                  have hbs := hbm.2.size
                  have hTl : (valsT (T7 ++ List.replicate j false)).length ≤ 2000000 := by rw [valsT_len, hll]; omega
                  generalize hLJ : T7 ++ List.replicate j false = LJ at HJ hown hTl
                  have HLJ : Hid _ := hLJ
                  have HM : Hid (padN (T7.length + (j + 1)) < padN (T7.length + j)) := (by unfold padN at hlt1 ⊢; omega : _ < _)
                  clear hbm hcv7 hll hLJ hnz
                  go_wp2_with (at_builtin; refine wpList_app_sl _ rfl _ _ 113 rfl w.heap.size 5 i0 Tryz.underlying113 hi hz0 hz1 hz2 _ _ rfl (hown.alloc _) ⟨wr.heap.size, 0, none⟩ 1 1 (valsT [false]) rfl rfl (src1 _ _ _) (by intro u hu; simp [valsT] at hu; subst hu; rfl) (by unfold maxLen; omega) (by omega) (by simp; omega) ?_)
                  intro v' w2 hown' hgrow
                  have hJ2 : BM w w2 v' (T7 ++ List.replicate (j + 1) false) := by
                    rw [List.replicate_succ', ← List.append_assoc, HLJ.out]
                    exact BM.step' HJ.out hown' hgrow
                  obtain ⟨g8, cap8, hv8, _⟩ := conv_end hJ2
                  have HJ2 : Hid _ := hJ2
                  rw [show (T7 ++ List.replicate (j + 1) false).length = T7.length + (j + 1) by simp] at hv8
                  have HV8 : Hid _ := hv8
                  clear hown' hgrow hown hJ2 hv8
                  go_wp2
                  go_roundw
                  case rel => exact ⟨j + 1, by omega, HJ2.out⟩
                  case measure => rw [HV8.out]; exact HM.out
                · have hjp : j = padN T7.length := by omega
                  have hz : ((T7.length + j : Nat) : Int) % 2016 = 0 := by rw [hjp]; unfold padN; omega
                  have hz2 : (((T7.length + j : Nat) : Int) % 2016 != 0) = false := by simpa using hz
                  have htm : ((T7.length + j : Nat) : Int).tmod 2016 = ((T7.length + j : Nat) : Int) % 2016 := Int.tmod_eq_emod_of_nonneg (by omega)
                  have HF : Hid (T7 ++ List.replicate j false = padB T7) := (by rw [hjp]; rfl : _ = _)
                  have HBf : Hid _ := hbm.2
                  rw [HF.out] at hcv7
                  clear hbm hjp
                  go_wp2
                  go_ret
                  exact ⟨ret1 (by rw [HTe.out]; rfl), HBf.out⟩
end Go.Proofs.YtphjbbbnbmafnaaGreatDoor.G
