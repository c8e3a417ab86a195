/-
  trellislaw's one question to a sequence of numbers of 8 bits (Len, Rank, Select, At, Below, Least, or none): the sequence answers as the document does of its list: it returns true; nothing that was there is written. The sequence's and the list's reading are the one condition.
-/
import Derived.Test.YtphjbbbnbmafnaaFind28
import Derived.Test.YtphjbbbnbmafnaaLeast8
import Derived.Test.YtphjbbbnbmafnaaLeast28
import Derived.Test.YtphjbbbnbmafnaaRefLeast
namespace Go.Proofs.Ytphjbbbnbmafnaa.S8
open Go.RowKit Go.Proofs.Ytphjbbbnbmafnaa

/-- a question, as a value -/
def ask (K H C I X Y : Int) : Value := .agg #[.int .i64 K, .int .i64 H, .int .i64 C, .int .i64 I, .int .i64 X, .int .i64 Y]
/-- the world behind the question's box -/
abbrev boxed (w : World) (K H C I X Y : Int) : World := w.alloc (.cells #[.int .i64 K, .int .i64 H, .int .i64 C, .int .i64 I, .int .i64 X, .int .i64 Y] 34)
theorem boxed_below (w : World) (K H C I X Y : Int) : Below w.heap.size w (boxed w K H C I X Y) := (Below.refl _ _).alloc (Nat.le_refl _) _
theorem cut_c (C : Int) : ∃ c : Nat, IntKind.u8.wrap C = (c : Int) ∧ C % 256 = (c : Int) ∧ c < 2 ^ 8 := by
  refine ⟨(C % 256).toNat, ?_, by omega, by omega⟩
  rw [IntKind.wrap_u8]; omega

set_option maxHeartbeats 2000000 in
set_option maxRecDepth 100000 in
theorem of_none {w : World} {b : Nat} {v : Value} (K H C I X Y : Int) (h1 : (K == 1) = false) (h2 : (K == 2) = false) (h3 : (K == 3) = false) (h4 : (K == 4) = false) (h5 : (K == 5) = false) (h6 : (K == 6) = false) :
    Calls Try.prog 28 #[.pointer (some ⟨b, 0, none⟩), v, ask K H C I X Y] w fun e w' => e = .returned (.bool true) ∧ Below w.heap.size w w' := by
  unfold ask
  go_enter Try.func28, Try.ntmps28
  go_wp2
  go_ret
  exact ⟨rfl, boxed_below _ _ _ _ _ _ _⟩
set_option maxHeartbeats 2000000 in
set_option maxRecDepth 100000 in
theorem of_len {w : World} {b g : Nat} {l : List Nat} {v : Value} (hs : SeqAt 8 w b g l) (hv : NumsAt .i64 w v l) (H C I X Y : Int) :
    Calls Try.prog 28 #[.pointer (some ⟨b, 0, none⟩), v, ask 1 H C I X Y] w fun e w' => e = .returned (.bool true) ∧ Below w.heap.size w w' := by
  unfold ask
  obtain ⟨a0, cap, rfl, hd⟩ := hv.open
  clear hd hv
  have HS : Hid _ := hs.below (boxed_below w 1 H C I X Y)
  have hn := hs.hn
  clear hs
  go_enter Try.func28, Try.ntmps28
  go_wp2_with fail
  refine (len_any HS.out).mono ?_
  rintro e w1 ⟨rfl, hw⟩
  rw [hw]
  clear hw w1
  go_wp2
  go_ret
  exact ⟨by simp, boxed_below _ _ _ _ _ _ _⟩
set_option maxHeartbeats 2000000 in
set_option maxRecDepth 100000 in
theorem of_rank {w : World} {b g : Nat} {l : List Nat} {v : Value} (hs : SeqAt 8 w b g l) (hv : NumsAt .i64 w v l) (H C I X Y : Int) :
    Calls Try.prog 28 #[.pointer (some ⟨b, 0, none⟩), v, ask 2 H C I X Y] w fun e w' => e = .returned (.bool true) ∧ Below w.heap.size w w' := by
  unfold ask
  obtain ⟨c, hc1, hc2, hcB⟩ := cut_c C
  obtain ⟨a0, cap, rfl, hd⟩ := hv.open
  clear hd
  have HV : Hid _ := hv.below (boxed_below w 2 H C I X Y)
  have HS : Hid _ := hs.below (boxed_below w 2 H C I X Y)
  have hn := hs.hn
  clear hs hv
  by_cases hi : 0 ≤ I ∧ I ≤ (l.length : Int)
  · obtain ⟨i, rfl⟩ : ∃ i : Nat, I = (i : Int) := ⟨I.toNat, by omega⟩
    have hil : i ≤ l.length := by omega
    have hci := cnt_le (eqf l c) i
    clear hi
    go_enter Try.func28, Try.ntmps28
    go_wp2_with fail
    refine (rank_yes HS.out c hcB i hil).mono ?_
    rintro e w1 ⟨rfl, hB1⟩
    have h3 := cell_kept hB1 ⟨w.heap.size, 3, none⟩ (.int .i64 (i : Int)) (by simp)
    have HB1 : Hid _ := hB1
    clear hB1
    go_wp2_with fail
    refine (R.rank_yes (NumsAt.below HV.out HB1.out) hn c i hil).mono ?_
    rintro e w2 ⟨rfl, hw⟩
    rw [hw]
    clear hw w2
    go_wp2_with (go_at_call 15; refine (R.num_any _ _).mono ?_; rintro e wy ⟨rfl, rfl⟩)
    go_ret
    exact ⟨by simp, chain (boxed_below _ _ _ _ _ _ _) HB1.out⟩
  · have hi' : I < 0 ∨ (l.length : Int) < I := by omega
    have HI : Hid _ := hi'
    clear hi hi'
    go_enter Try.func28, Try.ntmps28
    go_wp2_with fail
    refine (rank_no HS.out _ I HI.out).mono ?_
    rintro e w1 ⟨rfl, hB1⟩
    have h3 := cell_kept hB1 ⟨w.heap.size, 3, none⟩ (.int .i64 I) (by simp)
    have HB1 : Hid _ := hB1
    clear hB1
    go_wp2_with fail
    refine (R.rank_no (NumsAt.below HV.out HB1.out) hn _ I HI.out).mono ?_
    rintro e w2 ⟨rfl, hw⟩
    rw [hw]
    clear hw w2
    go_wp2_with (go_at_call 15; refine (R.num_any _ _).mono ?_; rintro e wy ⟨rfl, rfl⟩)
    go_ret
    exact ⟨by simp, chain (boxed_below _ _ _ _ _ _ _) HB1.out⟩
set_option maxHeartbeats 2000000 in
set_option maxRecDepth 100000 in
theorem of_select {w : World} {b g : Nat} {l : List Nat} {v : Value} (hs : SeqAt 8 w b g l) (hv : NumsAt .i64 w v l) (H C I X Y : Int) :
    Calls Try.prog 28 #[.pointer (some ⟨b, 0, none⟩), v, ask 3 H C I X Y] w fun e w' => e = .returned (.bool true) ∧ Below w.heap.size w w' := by
  unfold ask
  obtain ⟨c, hc1, hc2, hcB⟩ := cut_c C
  obtain ⟨a0, cap, rfl, hd⟩ := hv.open
  clear hd
  have HV : Hid _ := hv.below (boxed_below w 3 H C I X Y)
  have HS : Hid _ := hs.below (boxed_below w 3 H C I X Y)
  have hn := hs.hn
  clear hs hv
  by_cases hi : 0 ≤ I ∧ I < (cnt (eqf l c) l.length : Int)
  · obtain ⟨t, htl, het, hct⟩ := cnt_find (eqf l c) I.toNat l.length (by omega)
    have hIt : I = (cnt (eqf l c) t : Int) := by omega
    have HT : Hid (l[t]? = some c) := (by unfold eqf at het; simpa using het : l[t]? = some c)
    have hci := cnt_le (eqf l c) t
    clear hi het hct
    subst hIt
    go_enter Try.func28, Try.ntmps28
    go_wp2_with fail
    refine (select_at HS.out c t HT.out _ rfl).mono ?_
    rintro e w1 ⟨rfl, hB1⟩
    have h3 := cell_kept hB1 ⟨w.heap.size, 3, none⟩ (.int .i64 (cnt (eqf l c) t : Int)) (by simp)
    have HB1 : Hid _ := hB1
    clear hB1
    go_wp2_with fail
    refine (R.sel_yes (NumsAt.below HV.out HB1.out) hn c t HT.out _ rfl).mono ?_
    rintro e w2 ⟨rfl, hw⟩
    rw [hw]
    clear hw w2
    go_wp2_with (go_at_call 15; refine (R.num_any _ _).mono ?_; rintro e wy ⟨rfl, rfl⟩)
    go_ret
    exact ⟨by simp, chain (boxed_below _ _ _ _ _ _ _) HB1.out⟩
  · have hi' : I < 0 ∨ (cnt (eqf l c) l.length : Int) ≤ I := by omega
    have HI : Hid _ := hi'
    clear hi hi'
    go_enter Try.func28, Try.ntmps28
    go_wp2_with fail
    refine (select_no HS.out c hcB I HI.out).mono ?_
    rintro e w1 ⟨rfl, hB1⟩
    have h3 := cell_kept hB1 ⟨w.heap.size, 3, none⟩ (.int .i64 I) (by simp)
    have HB1 : Hid _ := hB1
    clear hB1
    go_wp2_with fail
    refine (R.sel_no (NumsAt.below HV.out HB1.out) hn c I HI.out).mono ?_
    rintro e w2 ⟨rfl, hw⟩
    rw [hw]
    clear hw w2
    go_wp2_with (go_at_call 15; refine (R.num_any _ _).mono ?_; rintro e wy ⟨rfl, rfl⟩)
    go_ret
    exact ⟨by simp, chain (boxed_below _ _ _ _ _ _ _) HB1.out⟩
set_option maxHeartbeats 2000000 in
set_option maxRecDepth 100000 in
theorem of_at {w : World} {b g : Nat} {l : List Nat} {v : Value} (hs : SeqAt 8 w b g l) (hv : NumsAt .i64 w v l) (H C I X Y : Int) :
    Calls Try.prog 28 #[.pointer (some ⟨b, 0, none⟩), v, ask 4 H C I X Y] w fun e w' => e = .returned (.bool true) ∧ Below w.heap.size w w' := by
  unfold ask
  obtain ⟨c, hc1, hc2, hcB⟩ := cut_c C
  obtain ⟨a0, cap, rfl, hd⟩ := hv.open
  have HL : Hid _ := hd
  clear hd
  have HV : Hid _ := hv.below (boxed_below w 4 H C I X Y)
  have HS : Hid _ := hs.below (boxed_below w 4 H C I X Y)
  have hn := hs.hn
  clear hs hv
  by_cases hi : 0 ≤ I ∧ I < (l.length : Int)
  · obtain ⟨i, rfl⟩ : ∃ i : Nat, I = (i : Int) := ⟨I.toNat, by omega⟩
    have hil : i < l.length := by omega
    obtain ⟨x, hx⟩ := some_at' hil
    obtain ⟨g0, off, rfl, hxc⟩ := HL.out i x hx
    have hxB : x < 2 ^ 8 := HS.out.lt x (List.mem_of_getElem? hx)
    have HX : Hid (l[i]? = some x) := hx
    have hi0 : ¬ (i : Int) < 0 := by omega
    have HXC : Hid _ := cell_kept (boxed_below w 4 H C i X Y) _ _ hxc
    clear hi hx hxc HL
    go_enter Try.func28, Try.ntmps28
    go_wp2_with fail
    refine (at_yes HS.out i x HX.out).mono ?_
    rintro e w1 ⟨rfl, hB1⟩
    have h3 := cell_kept hB1 ⟨w.heap.size, 3, none⟩ (.int .i64 (i : Int)) (by simp)
    have h4 := cell_kept hB1 _ _ HXC.out
    have HB1 : Hid _ := hB1
    clear hB1
    go_wp2_with (go_at_call 15; refine (R.num_any _ _).mono ?_; rintro e wy ⟨rfl, rfl⟩)
    go_ret
    exact ⟨by simp, chain (boxed_below _ _ _ _ _ _ _) HB1.out⟩
  · have hi' : I < 0 ∨ (l.length : Int) ≤ I := by omega
    have HI : Hid _ := hi'
    clear hi HL
    by_cases hneg : I < 0
    · clear hi'
      go_enter Try.func28, Try.ntmps28
      go_wp2_with fail
      refine (at_no HS.out I HI.out).mono ?_
      rintro e w1 ⟨rfl, hB1⟩
      have h3 := cell_kept hB1 ⟨w.heap.size, 3, none⟩ (.int .i64 I) (by simp)
      have HB1 : Hid _ := hB1
      clear hB1
      go_wp2_with (go_at_call 15; refine (R.num_any _ _).mono ?_; rintro e wy ⟨rfl, rfl⟩)
      go_ret
      exact ⟨by simp, chain (boxed_below _ _ _ _ _ _ _) HB1.out⟩
    · have hbig : (l.length : Int) ≤ I := by omega
      clear hi'
      go_enter Try.func28, Try.ntmps28
      go_wp2_with fail
      refine (at_no HS.out I HI.out).mono ?_
      rintro e w1 ⟨rfl, hB1⟩
      have h3 := cell_kept hB1 ⟨w.heap.size, 3, none⟩ (.int .i64 I) (by simp)
      have HB1 : Hid _ := hB1
      clear hB1
      go_wp2_with (go_at_call 15; refine (R.num_any _ _).mono ?_; rintro e wy ⟨rfl, rfl⟩)
      go_ret
      exact ⟨by simp, chain (boxed_below _ _ _ _ _ _ _) HB1.out⟩
set_option maxHeartbeats 2000000 in
set_option maxRecDepth 100000 in
theorem of_below {w : World} {b g : Nat} {l : List Nat} {v : Value} (hs : SeqAt 8 w b g l) (hv : NumsAt .i64 w v l) (H C I X Y : Int) :
    Calls Try.prog 28 #[.pointer (some ⟨b, 0, none⟩), v, ask 5 H C I X Y] w fun e w' => e = .returned (.bool true) ∧ Below w.heap.size w w' := by
  unfold ask
  obtain ⟨c, hc1, hc2, hcB⟩ := cut_c C
  obtain ⟨a0, cap, rfl, hd⟩ := hv.open
  clear hd
  have HV : Hid _ := hv.below (boxed_below w 5 H C I X Y)
  have HS : Hid _ := hs.below (boxed_below w 5 H C I X Y)
  have hn := hs.hn
  clear hs hv
  by_cases hi : 0 ≤ X ∧ X ≤ Y ∧ Y ≤ (l.length : Int)
  · obtain ⟨x, rfl⟩ : ∃ x : Nat, X = (x : Int) := ⟨X.toNat, by omega⟩
    obtain ⟨y, rfl⟩ : ∃ y : Nat, Y = (y : Int) := ⟨Y.toNat, by omega⟩
    have hxy : x ≤ y := by omega
    have hyl : y ≤ l.length := by omega
    have hbl := bel_le l x y c
    clear hi
    go_enter Try.func28, Try.ntmps28
    go_wp2_with fail
    refine (below_yes HS.out c x y hcB hxy hyl).mono ?_
    rintro e w1 ⟨rfl, hB1⟩
    have h4 := cell_kept hB1 ⟨w.heap.size, 4, none⟩ (.int .i64 (x : Int)) (by simp)
    have h5 := cell_kept hB1 ⟨w.heap.size, 5, none⟩ (.int .i64 (y : Int)) (by simp)
    have HB1 : Hid _ := hB1
    clear hB1
    go_wp2_with fail
    refine (R.below_yes (NumsAt.below HV.out HB1.out) hn x y c hxy hyl _ _ _ rfl rfl rfl).mono ?_
    rintro e w2 ⟨rfl, hB2⟩
    have HB2 : Hid _ := chain HB1.out hB2
    clear hB2
    go_wp2_with (go_at_call 15; refine (R.num_any _ _).mono ?_; rintro e wy ⟨rfl, rfl⟩)
    go_ret
    exact ⟨by simp, chain (boxed_below _ _ _ _ _ _ _) HB2.out⟩
  · have HI : Hid _ := hi
    clear hi
    go_enter Try.func28, Try.ntmps28
    go_wp2_with fail
    refine (below_no HS.out _ X Y HI.out).mono ?_
    rintro e w1 ⟨rfl, hB1⟩
    have h4 := cell_kept hB1 ⟨w.heap.size, 4, none⟩ (.int .i64 X) (by simp)
    have h5 := cell_kept hB1 ⟨w.heap.size, 5, none⟩ (.int .i64 Y) (by simp)
    have HB1 : Hid _ := hB1
    clear hB1
    go_wp2_with fail
    refine (R.below_no (NumsAt.below HV.out HB1.out) X Y _ HI.out).mono ?_
    rintro e w2 ⟨rfl, hB2⟩
    have HB2 : Hid _ := chain HB1.out hB2
    clear hB2
    go_wp2_with (go_at_call 15; refine (R.num_any _ _).mono ?_; rintro e wy ⟨rfl, rfl⟩)
    go_ret
    exact ⟨by simp, chain (boxed_below _ _ _ _ _ _ _) HB2.out⟩
set_option maxHeartbeats 2000000 in
set_option maxRecDepth 100000 in
theorem of_least {w : World} {b g : Nat} {l : List Nat} {v : Value} (hs : SeqAt 8 w b g l) (hv : NumsAt .i64 w v l) (H C I X Y : Int) :
    Calls Try.prog 28 #[.pointer (some ⟨b, 0, none⟩), v, ask 6 H C I X Y] w fun e w' => e = .returned (.bool true) ∧ Below w.heap.size w w' := by
  unfold ask
  obtain ⟨c, hc1, hc2, hcB⟩ := cut_c C
  obtain ⟨a0, cap, rfl, hd⟩ := hv.open
  clear hd
  have HV : Hid _ := hv.below (boxed_below w 6 H C I X Y)
  have HS : Hid _ := hs.below (boxed_below w 6 H C I X Y)
  have hn := hs.hn
  have HM : Hid _ := fun z hz => Nat.lt_of_lt_of_le (hs.lt z hz) (show 2 ^ 8 ≤ 65536 by decide)
  clear hs hv
  by_cases hi : (0 ≤ X ∧ X ≤ Y ∧ Y ≤ (l.length : Int)) ∧ 0 ≤ I ∧ I < Y - X
  · obtain ⟨x, rfl⟩ : ∃ x : Nat, X = (x : Int) := ⟨X.toNat, by omega⟩
    obtain ⟨y, rfl⟩ : ∃ y : Nat, Y = (y : Int) := ⟨Y.toNat, by omega⟩
    obtain ⟨k, rfl⟩ : ∃ k : Nat, I = (k : Int) := ⟨I.toNat, by omega⟩
    have hxy : x ≤ y := by omega
    have hyl : y ≤ l.length := by omega
    have hk : k < y - x := by omega
    clear hi
    go_enter Try.func28, Try.ntmps28
    go_wp2_with fail
    refine (least_yes HS.out x y k hxy hyl hk).mono ?_
    rintro e w1 ⟨z, rfl, hz, hB1⟩
    have h3 := cell_kept hB1 ⟨w.heap.size, 3, none⟩ (.int .i64 (k : Int)) (by simp)
    have h4 := cell_kept hB1 ⟨w.heap.size, 4, none⟩ (.int .i64 (x : Int)) (by simp)
    have h5 := cell_kept hB1 ⟨w.heap.size, 5, none⟩ (.int .i64 (y : Int)) (by simp)
    have HB1 : Hid _ := hB1
    have HZ : Hid _ := hz
    have hzB := hz.2.2
    clear hB1 hz
    go_wp2_with fail
    refine (R.least_yes (NumsAt.below HV.out HB1.out) hn HM.out x y k hxy hyl hk).mono ?_
    rintro e w2 ⟨z2, rfl, hz2, hB2⟩
    obtain rfl : z2 = z := least_uniq hz2.1 hz2.2 HZ.out.1 HZ.out.2.1
    have HB2 : Hid _ := chain HB1.out hB2
    clear hB2 hz2
    go_wp2_with (go_at_call 15; refine (R.num_any _ _).mono ?_; rintro e wy ⟨rfl, rfl⟩)
    go_ret
    exact ⟨by simp, chain (boxed_below _ _ _ _ _ _ _) HB2.out⟩
  · have hi' : ¬ (0 ≤ X ∧ X ≤ Y ∧ Y ≤ (l.length : Int)) ∨ I < 0 ∨ Y - X ≤ I := by omega
    have HI : Hid _ := hi'
    clear hi hi'
    go_enter Try.func28, Try.ntmps28
    go_wp2_with fail
    refine (least_no HS.out X Y I HI.out).mono ?_
    rintro e w1 ⟨rfl, hB1⟩
    have h3 := cell_kept hB1 ⟨w.heap.size, 3, none⟩ (.int .i64 I) (by simp)
    have h4 := cell_kept hB1 ⟨w.heap.size, 4, none⟩ (.int .i64 X) (by simp)
    have h5 := cell_kept hB1 ⟨w.heap.size, 5, none⟩ (.int .i64 Y) (by simp)
    have HB1 : Hid _ := hB1
    clear hB1
    go_wp2_with fail
    refine (R.least_no (NumsAt.below HV.out HB1.out) hn X Y I HI.out).mono ?_
    rintro e w2 ⟨rfl, hB2⟩
    have HB2 : Hid _ := chain HB1.out hB2
    clear hB2
    go_wp2_with (go_at_call 15; refine (R.num_any _ _).mono ?_; rintro e wy ⟨rfl, rfl⟩)
    go_ret
    exact ⟨by simp, chain (boxed_below _ _ _ _ _ _ _) HB2.out⟩
theorem of_any {w : World} {b g : Nat} {l : List Nat} {v : Value} (hs : SeqAt 8 w b g l) (hv : NumsAt .i64 w v l) (K H C I X Y : Int) :
    Calls Try.prog 28 #[.pointer (some ⟨b, 0, none⟩), v, ask K H C I X Y] w fun e w' => e = .returned (.bool true) ∧ Below w.heap.size w w' := by
  by_cases h1 : K = 1
  · subst h1; exact of_len hs hv H C I X Y
  by_cases h2 : K = 2
  · subst h2; exact of_rank hs hv H C I X Y
  by_cases h3 : K = 3
  · subst h3; exact of_select hs hv H C I X Y
  by_cases h4 : K = 4
  · subst h4; exact of_at hs hv H C I X Y
  by_cases h5 : K = 5
  · subst h5; exact of_below hs hv H C I X Y
  by_cases h6 : K = 6
  · subst h6; exact of_least hs hv H C I X Y
  exact of_none K H C I X Y (by simpa using h1) (by simpa using h2) (by simpa using h3) (by simpa using h4) (by simpa using h5) (by simpa using h6)
end Go.Proofs.Ytphjbbbnbmafnaa.S8
