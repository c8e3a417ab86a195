/-
  The program's text of a graph (textOf), over edges in order that lie in memory: the bits of the graph; nothing that was there is written.
-/
import Derived.Test.YtphjbbbnbmafnaaPSrc
namespace Go.Proofs.Ytphjbbbnbmafnaa.G
open Go.RowKit

theorem strT (l : List Bool) : Lib.strCells (txt l) = valsT l := by rw [valsT_bytes]; rfl
theorem nums_take {k : Nat} {l : List Nat} {i x : Nat} (h : l[i]? = some x) : nums k (l.take (i + 1)) = nums k (l.take i) ++ digs k x := by
  rw [List.take_add_one, h, Option.toList_some, nums_snoc]
theorem nums_take_len (k : Nat) (l : List Nat) (i : Nat) : (nums k (l.take i)).length ≤ k * l.length := by
  rw [nums_len]
  exact Nat.mul_le_mul_left _ (by simp; omega)
theorem labs_at {l : List Gm.E3} {i : Nat} {e : Gm.E3} (h : l[i]? = some e) : (labs l)[i]? = some e.2.1.toNat := by unfold labs; rw [List.getElem?_map, h]; rfl
theorem tos_at {l : List Gm.E3} {i : Nat} {e : Gm.E3} (h : l[i]? = some e) : (tos l)[i]? = some e.2.2.toNat := by unfold tos; rw [List.getElem?_map, h]; rfl
theorem box3 (w : World) (a b c : Value) (t : TypeId) : (w.alloc (.cells #[a, b, c] t)).cell? ⟨w.heap.size, 0, none⟩ = some a ∧ (w.alloc (.cells #[a, b, c] t)).cell? ⟨w.heap.size, 1, none⟩ = some b ∧ (w.alloc (.cells #[a, b, c] t)).cell? ⟨w.heap.size, 2, none⟩ = some c := by
  refine ⟨by simp, by simp, by simp⟩
set_option maxHeartbeats 4000000 in
set_option maxRecDepth 100000 in
theorem textof_any (n s : Nat) (l : List E3) (v : Value) (w : World) (he : EdgesAt w v l) (hst : Gm.Strict l) (hok : ∀ e ∈ l, Gm.edgeOk n s e) (hn : 1 ≤ n) (hn2 : n ≤ 10000) (hs : 1 ≤ s) (hs2 : s ≤ 26) (hl : l.length ≤ 20000) :
    Calls Try.prog 72 #[.int .i64 (n : Int), .int .i64 (s : Int), v] w fun e w' => e = .returned (.string (txt (gbits n s l))) ∧ Below w.heap.size w w' := by
  have h0 : Gm.ah l 0 = 0 := Gm.ah_zero l (fun e h => (hok e h).1)
  have hall : Gm.ah l n = l.length := Gm.ah_all l n (fun e h => (hok e h).2.1)
  have HSrc : ∀ W, Below w.heap.size w W → Hid (Calls Try.prog 97 #[.int .i64 (n : Int), v] W _) := fun W hW => srctext_any n l v W (he.below hW) (Gm.strict_rising hst) h0 (by omega) (by omega)
  have hsl := srcs_len l h0 n
  rw [hall] at hsl
  have hw1 := wid_le (s - 1) (by omega)
  have hw2 := wid_le (n - 1) (by omega)
  have HOk : Hid _ := hok
  obtain ⟨a0, cap, rfl, hed⟩ := he
  have HE : Hid _ := hed
  have hB0 : Bu w.heap.size w.heap.size (valsT []) (w.alloc (.cells #[.pointer none, .slice none 0 0] 138)) := Lib.IsBuilderF.of (Lib.fresh_isBuilder 138 5 w)
  have HB0 : Hid _ := hB0
  clear hed h0 hall hst hok hB0
  go_enter Try.func72, Try.ntmps72
  go_wp2_with fail
  refine (addnum_any n 14 _ _ [] _ (by decide) (by omega) HB0.out (by simp) (by simp)).mono ?_
  rintro e w1 ⟨rfl, hb1, hl1, ho1⟩
  have H1 : Hid (Bu w.heap.size w.heap.size (valsT ([] ++ digs 14 n)) w1 ∧ Below w.heap.size w w1) := (⟨hb1, (below1 w _).trans hl1⟩ : _ ∧ _)
  clear hb1 hl1 ho1 HB0
  go_wp2_with fail
  refine (addnum_any s 5 _ _ _ _ (by decide) (by omega) H1.out.1 H1.out.2.size (by simp [digs_len])).mono ?_
  rintro e w2 ⟨rfl, hb2, hl2, ho2⟩
  have H2 : Hid (Bu w.heap.size w.heap.size (valsT ([] ++ digs 14 n ++ digs 5 s)) w2 ∧ Below w.heap.size w w2) := (⟨hb2, H1.out.2.trans hl2⟩ : _ ∧ _)
  clear hb2 hl2 ho2 H1
  go_wp2_with fail
  refine (addnum_any l.length 15 _ _ _ _ (by decide) (by omega) H2.out.1 H2.out.2.size (by simp [digs_len])).mono ?_
  rintro e w3 ⟨rfl, hb3, hl3, ho3⟩
  have H3 : Hid (Bu w.heap.size w.heap.size (valsT (digs 14 n ++ digs 5 s ++ digs 15 l.length)) w3 ∧ Below w.heap.size w w3) := (⟨hb3, H2.out.2.trans hl3⟩ : _ ∧ _)
  clear hb3 hl3 ho3 H2
  go_wp2_with fail
  refine (Calls.mono (HSrc w3 H3.out.2).out ?_)
  rintro e w4 ⟨rfl, hB4⟩
  have HW : Hid (Calls Try.prog 96 _ w4 _) := ws_k w.heap.size w.heap.size _ (txt (srcs l n)) w4 (bu_below H3.out.1 hB4) (by rw [valsT_len, txt_size]; simp [digs_len]; omega) (Nat.le_trans H3.out.2.size hB4.size)
  have HB4 : Hid (Below w.heap.size w w4) := chain H3.out.2 hB4
  clear hB4
  go_wp2_with fail
  refine (Calls.mono HW.out ?_)
  rintro e w5 ⟨rfl, hb5, hl5, ho5⟩
  rw [strT, ← valsT_append] at hb5
  have H5 : Hid (Bu w.heap.size w.heap.size (valsT (digs 14 n ++ digs 5 s ++ digs 15 l.length ++ srcs l n)) w5 ∧ Below w.heap.size w w5) := (⟨hb5, HB4.out.trans hl5⟩ : _ ∧ _)
  have hT5 : (digs 14 n ++ digs 5 s ++ digs 15 l.length ++ srcs l n).length ≤ 40000 := by simp [digs_len]; omega
  have HG : Hid (gbits n s l = digs 14 n ++ digs 5 s ++ digs 15 l.length ++ srcs l n ++ nums (wid (s - 1)) (labs l) ++ nums (wid (n - 1)) (tos l)) := (rfl : gbits n s l = _)
  generalize digs 14 n ++ digs 5 s ++ digs 15 l.length ++ srcs l n = T5 at H5 hT5 HG
  clear hb5 hl5 ho5 HB4 HW H3 HSrc hsl
  go_wp2
  go_loopw [25] (fun si wr => ∃ i : Nat, i ≤ l.length ∧ si = .int .i64 (i : Int) ∧ Hid (Bu w.heap.size w.heap.size (valsT (T5 ++ nums (wid (s - 1)) ((labs l).take i))) wr ∧ Below w.heap.size w wr)) (fun si _ => l.length - (intOf si).toNat)
  case atStart => exact ⟨0, Nat.zero_le _, rfl, by rw [show T5 ++ nums (wid (s - 1)) ((labs l).take 0) = T5 by simp [nums]]; exact H5.out⟩
  case round =>
    obtain ⟨i, hi, rfl, HI⟩ := hrel
    by_cases hlt : i < l.length
    · obtain ⟨x, hx⟩ : ∃ x, l[i]? = some x := ⟨_, List.getElem?_eq_getElem hlt⟩
      obtain ⟨g, off, rfl, c0, c1, c2⟩ := HE.out i x hx
      have d0 := cell_kept HI.out.2 _ _ c0
      have d1 := cell_kept HI.out.2 _ _ c1
      have d2 := cell_kept HI.out.2 _ _ c2
      have hxo := HOk.out x (List.mem_of_getElem? hx)
      have HN : Hid _ := nums_take (k := wid (s - 1)) (labs_at hx)
      have hnl := nums_take_len (wid (s - 1)) (labs l) i
      have hll : (labs l).length = l.length := by simp [labs]
      rw [hll] at hnl
      have hmul : wid (s - 1) * l.length ≤ 20 * 20000 := Nat.mul_le_mul hw1 hl
      obtain ⟨x1, x2, x3⟩ := x
      obtain ⟨y, hy⟩ : ∃ y : Nat, x2 = (y : Int) := ⟨x2.toNat, by have := hxo.2.2.1; simp only at this; omega⟩
      subst hy
      have hyl : y < 26 := by have := hxo.2.2.2.1; simp only at this; omega
      simp only [Int.toNat_natCast] at d0 d1 d2 HN
      obtain ⟨bx0, bx1, bx2⟩ := box3 wr (.int .i64 x1) (.int .i64 (y : Int)) (.int .i64 x3) 112
      have hiI : (i : Int) < (l.length : Int) := by omega
      clear c0 c1 c2 hx hxo
      have hrs := HI.out.2.size
      have HWd : ∀ W, Hid (Calls Try.prog 98 #[.int .i64 (s : Int)] W _) := fun W => pwidth_any s hs (by omega) W
      have HAd : Hid (Calls Try.prog 95 _ (wr.alloc (.cells #[.int .i64 x1, .int .i64 (y : Int), .int .i64 x3] 112)).drew _) := addnum_any y (wid (s - 1)) w.heap.size w.heap.size (T5 ++ nums (wid (s - 1)) ((labs l).take i)) (wr.alloc (.cells #[.int .i64 x1, .int .i64 (y : Int), .int .i64 x3] 112)).drew (by omega) (by omega) (bu_below HI.out.1 (below1 _ _).drew) (by show _ ≤ (wr.alloc _).heap.size; simp; omega) (by simp; omega)
      have HBx : Hid (Below w.heap.size w (wr.alloc (.cells #[.int .i64 x1, .int .i64 (y : Int), .int .i64 x3] 112)).drew) := (HI.out.2.alloc hrs _).drew
      clear hmul hnl hll
      go_wp2
      go_region_with (first
        | (go_at_call 98; refine (Calls.mono (HWd _).out ?_); rintro e w' ⟨rfl, rfl⟩)
        | (go_at_call 95; refine (Calls.mono HAd.out ?_); rintro e w' ⟨rfl, hb6, hl6, ho6⟩))
      all_goals
        have HI2 : Hid (Bu w.heap.size w.heap.size (valsT (T5 ++ nums (wid (s - 1)) ((labs l).take (i + 1)))) w' ∧ Below w.heap.size w w') := (by
          rw [HN.out, ← List.append_assoc]
          exact ⟨hb6, HBx.out.trans hl6⟩ : _ ∧ _)
        clear hb6 hl6 ho6
        go_wp2
        go_roundw
        case rel => exact ⟨i + 1, by omega, by go_num, HI2.out⟩
        case measure => simp [intOf] <;> omega
    · obtain rfl : i = l.length := by omega
      have hI := HI.out
      rw [List.take_of_length_le (by simp [labs])] at hI
      have H6 : Hid _ := hI
      have hll : (labs l).length = l.length := by simp [labs]
      have hmul : wid (s - 1) * l.length ≤ 20 * 20000 := Nat.mul_le_mul hw1 hl
      have hT6 : (T5 ++ nums (wid (s - 1)) (labs l)).length ≤ 500000 := by rw [List.length_append, nums_len, hll]; omega
      clear hI HI H5 hll hmul
      generalize T5 ++ nums (wid (s - 1)) (labs l) = T6 at H6 hT6 HG
      go_wp2
      go_loopw [37] (fun si wr => ∃ i : Nat, i ≤ l.length ∧ si = .int .i64 (i : Int) ∧ Hid (Bu w.heap.size w.heap.size (valsT (T6 ++ nums (wid (n - 1)) ((tos l).take i))) wr ∧ Below w.heap.size w wr)) (fun si _ => l.length - (intOf si).toNat)
      case atStart => exact ⟨0, Nat.zero_le _, rfl, by rw [show T6 ++ nums (wid (n - 1)) ((tos l).take 0) = T6 by simp [nums]]; exact H6.out⟩
      case round =>
        obtain ⟨i, hi, rfl, HI⟩ := hrel
        by_cases hlt : i < l.length
        · obtain ⟨x, hx⟩ : ∃ x, l[i]? = some x := ⟨_, List.getElem?_eq_getElem hlt⟩
          obtain ⟨g, off, rfl, c0, c1, c2⟩ := HE.out i x hx
          have d0 := cell_kept HI.out.2 _ _ c0
          have d1 := cell_kept HI.out.2 _ _ c1
          have d2 := cell_kept HI.out.2 _ _ c2
          have hxo := HOk.out x (List.mem_of_getElem? hx)
          have HN : Hid _ := nums_take (k := wid (n - 1)) (tos_at hx)
          have hnl := nums_take_len (wid (n - 1)) (tos l) i
          have hll : (tos l).length = l.length := by simp [tos]
          rw [hll] at hnl
          have hmul : wid (n - 1) * l.length ≤ 20 * 20000 := Nat.mul_le_mul hw2 hl
          obtain ⟨x1, x2, x3⟩ := x
          obtain ⟨y, hy⟩ : ∃ y : Nat, x3 = (y : Int) := ⟨x3.toNat, by have := hxo.2.2.2.2.1; simp only at this; omega⟩
          subst hy
          have hyl : y < 10000 := by have := hxo.2.2.2.2.2; simp only at this; omega
          simp only [Int.toNat_natCast] at d0 d1 d2 HN
          obtain ⟨bx0, bx1, bx2⟩ := box3 wr (.int .i64 x1) (.int .i64 x2) (.int .i64 (y : Int)) 112
          have hiI : (i : Int) < (l.length : Int) := by omega
          clear c0 c1 c2 hx hxo
          have hrs := HI.out.2.size
          have HWd : ∀ W, Hid (Calls Try.prog 98 #[.int .i64 (n : Int)] W _) := fun W => pwidth_any n hn (by omega) W
          have HAd : Hid (Calls Try.prog 95 _ (wr.alloc (.cells #[.int .i64 x1, .int .i64 x2, .int .i64 (y : Int)] 112)).drew _) := addnum_any y (wid (n - 1)) w.heap.size w.heap.size (T6 ++ nums (wid (n - 1)) ((tos l).take i)) (wr.alloc (.cells #[.int .i64 x1, .int .i64 x2, .int .i64 (y : Int)] 112)).drew (by omega) (by omega) (bu_below HI.out.1 (below1 _ _).drew) (by show _ ≤ (wr.alloc _).heap.size; simp; omega) (by simp; omega)
          have HBx : Hid (Below w.heap.size w (wr.alloc (.cells #[.int .i64 x1, .int .i64 x2, .int .i64 (y : Int)] 112)).drew) := (HI.out.2.alloc hrs _).drew
          clear hmul hnl hll
          go_wp2
          go_region_with (first
            | (go_at_call 98; refine (Calls.mono (HWd _).out ?_); rintro e w' ⟨rfl, rfl⟩)
            | (go_at_call 95; refine (Calls.mono HAd.out ?_); rintro e w' ⟨rfl, hb6, hl6, ho6⟩))
          all_goals
            have HI2 : Hid (Bu w.heap.size w.heap.size (valsT (T6 ++ nums (wid (n - 1)) ((tos l).take (i + 1)))) w' ∧ Below w.heap.size w w') := (by
              rw [HN.out, ← List.append_assoc]
              exact ⟨hb6, HBx.out.trans hl6⟩ : _ ∧ _)
            clear hb6 hl6 ho6
            go_wp2
            go_roundw
            case rel => exact ⟨i + 1, by omega, by go_num, HI2.out⟩
            case measure => simp [intOf] <;> omega
        · obtain rfl : i = l.length := by omega
          have hI := HI.out
          rw [List.take_of_length_le (by simp [tos]), ← HG.out, valsT_bytes] at hI
          have HSt : Hid (Calls Try.prog 94 _ wr _) := Try.Builder_String_any_k w.heap.size w.heap.size _ wr hI.1 hI.2.size
          have HBf : Hid _ := hI.2
          clear hI HI
          go_wp2_with fail
          refine (Calls.mono HSt.out ?_)
          rintro e w3 ⟨rfl, hb3, hl3, ho3⟩
          go_wp2
          go_ret
          exact ⟨rfl, HBf.out.trans hl3⟩
end Go.Proofs.Ytphjbbbnbmafnaa.G
