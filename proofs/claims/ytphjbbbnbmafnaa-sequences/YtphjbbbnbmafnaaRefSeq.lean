/-
  The document's own answers over sequences: trellisref's span, Rank, Select, Below and Least go through a list of numbers that lies in memory; what each returns, for every argument; nothing that was there is written.
-/
import Derived.Test.YtphjbbbnbmafnaaNums
import Derived.Test.YtphjbbbnbmafnaaBel
namespace Go.Proofs.Ytphjbbbnbmafnaa.R
open Go.RowKit Go.Proofs.Ytphjbbbnbmafnaa

set_option maxHeartbeats 400000 in
theorem num_any (n : Int) (w : World) : Calls Try.prog 15 #[.int .i64 n] w fun e w' => e = .returned (.int .i64 n) ∧ w' = w := by
  go_enter Try.func15, Try.ntmps15
  go_wp2
  go_ret
  exact ⟨rfl, rfl⟩
set_option maxHeartbeats 400000 in
theorem span_any (x y n : Int) (w : World) :
    Calls Try.prog 84 #[.agg #[.int .i64 x, .int .i64 y], .int .i64 n] w fun e w' => e = .returned (.bool (decide (0 ≤ x ∧ x ≤ y ∧ y ≤ n))) ∧ Below w.heap.size w w' := by
  by_cases h1 : 0 ≤ x
  · by_cases h2 : x ≤ y
    · by_cases h3 : y ≤ n
      · have HD : Hid _ := decide_eq_true (show 0 ≤ x ∧ x ≤ y ∧ y ≤ n from ⟨h1, h2, h3⟩)
        rw [HD.out]
        go_enter Try.func84, Try.ntmps84
        go_wp2
        go_ret
        exact ⟨rfl, (Below.refl _ _).alloc (Nat.le_refl _) _⟩
      · have HD : Hid _ := decide_eq_false (show ¬ (0 ≤ x ∧ x ≤ y ∧ y ≤ n) from fun h => h3 h.2.2)
        rw [HD.out]
        go_enter Try.func84, Try.ntmps84
        go_wp2
        go_ret
        exact ⟨rfl, (Below.refl _ _).alloc (Nat.le_refl _) _⟩
    · have HD : Hid _ := decide_eq_false (show ¬ (0 ≤ x ∧ x ≤ y ∧ y ≤ n) from fun h => h2 h.2.1)
      rw [HD.out]
      go_enter Try.func84, Try.ntmps84
      go_wp2
      go_ret
      exact ⟨rfl, (Below.refl _ _).alloc (Nat.le_refl _) _⟩
  · have HD : Hid _ := decide_eq_false (show ¬ (0 ≤ x ∧ x ≤ y ∧ y ≤ n) from fun h => h1 h.1)
    rw [HD.out]
    go_enter Try.func84, Try.ntmps84
    go_wp2
    go_ret
    exact ⟨rfl, (Below.refl _ _).alloc (Nat.le_refl _) _⟩

theorem eqf_get {l : List Nat} {k x c : Nat} (hx : l[k]? = some x) : eqf l c k = (x == c) := by unfold eqf; rw [hx]; rfl

set_option maxHeartbeats 400000 in
theorem rank_no {w : World} {v : Value} {l : List Nat} (h : NumsAt .i64 w v l) (hn : l.length ≤ 100000) (c i : Int) (hi : i < 0 ∨ (l.length : Int) < i) :
    Calls Try.prog 14 #[v, .int .i64 c, .int .i64 i] w fun e w' => e = .returned (.tuple #[.int .i64 0, .int .i64 1]) ∧ w' = w := by
  obtain ⟨a0, cap, rfl, hd⟩ := h.open
  clear hd
  rcases hi with hi | hi
  · go_enter Try.func14, Try.ntmps14
    go_wp2
    go_ret2
    exact ⟨rfl, rfl⟩
  · have h1 : ¬ i < 0 := by omega
    go_enter Try.func14, Try.ntmps14
    go_wp2
    go_ret2
    exact ⟨rfl, rfl⟩
set_option maxHeartbeats 1000000 in
theorem rank_yes {w : World} {v : Value} {l : List Nat} (h : NumsAt .i64 w v l) (hn : l.length ≤ 100000) (c i : Nat) (hi : i ≤ l.length) :
    Calls Try.prog 14 #[v, .int .i64 (c : Int), .int .i64 (i : Int)] w fun e w' => e = .returned (.tuple #[.int .i64 (cnt (eqf l c) i : Int), .int .i64 0]) ∧ w' = w := by
  obtain ⟨a0, cap, rfl, hl⟩ := h.open
  have HL : Hid _ := hl
  clear hl h
  have h1 : ¬ (i : Int) < 0 := by omega
  go_enter Try.func14, Try.ntmps14
  go_wp2
  go_loop [8, 9] (fun m cc => ∃ k : Nat, k ≤ i ∧ cc = .int .i64 k ∧ m = .int .i64 (cnt (eqf l c) k : Int)) (fun _ cc => i - (intOf cc).toNat)
  case atStart => exact ⟨0, Nat.zero_le _, rfl, rfl⟩
  case round =>
    obtain ⟨k, hk, rfl, rfl⟩ := hrel
    have hck := cnt_le (eqf l c) k
    by_cases hlt : k < i
    · obtain ⟨x, hx⟩ := some_at' (show k < l.length by omega)
      obtain ⟨g, off, rfl, hcell⟩ := HL.out k x hx
      have hki : (k : Int) < (l.length : Int) := by omega
      have hC := cnt_succ (eqf l c) k
      rw [eqf_get hx] at hC
      clear HL hx
      by_cases hf : x = c
      · have hfI : ((x : Int) == (c : Int)) = true := by simp; omega
        have hfb : (x == c) = true := by simpa using hf
        rw [hfb] at hC
        have HC : Hid _ := hC
        clear hC hf hfb
        go_wp2
        go_round
        case rel => exact ⟨k + 1, by omega, by go_num, by rw [HC.out]; go_num⟩
        case measure => simp [intOf]; omega
      · have hfI : ((x : Int) == (c : Int)) = false := by simp; omega
        have hfb : (x == c) = false := by simpa using hf
        rw [hfb] at hC
        have HC : Hid _ := hC
        clear hC hf hfb
        go_wp2
        go_round
        case rel => exact ⟨k + 1, by omega, by go_num, by rw [HC.out]; rfl⟩
        case measure => simp [intOf]; omega
    · obtain rfl : k = i := by omega
      go_wp2
      go_ret2
      exact ⟨rfl, rfl⟩
set_option maxHeartbeats 1000000 in
theorem sel_yes {w : World} {v : Value} {l : List Nat} (h : NumsAt .i64 w v l) (hn : l.length ≤ 100000) (c t : Nat) (ht : l[t]? = some c) (K : Int) (hK : K = (cnt (eqf l c) t : Int)) :
    Calls Try.prog 16 #[v, .int .i64 (c : Int), .int .i64 K] w fun e w' => e = .returned (.tuple #[.int .i64 (t : Int), .int .i64 0]) ∧ w' = w := by
  subst hK
  obtain ⟨a0, cap, rfl, hl⟩ := h.open
  have HL : Hid _ := hl
  have HT : Hid (l[t]? = some c) := ht
  have htl : t < l.length := by
    rcases Nat.lt_or_ge t l.length with h | h
    · exact h
    · rw [List.getElem?_eq_none h] at ht; cases ht
  clear hl h ht
  have hcp := cnt_le (eqf l c) t
  go_enter Try.func16, Try.ntmps16
  go_wp2
  go_loop [8, 9] (fun m cc => ∃ k : Nat, k ≤ t ∧ cc = .int .i64 k ∧ m = .int .i64 (cnt (eqf l c) k : Int)) (fun _ cc => t - (intOf cc).toNat)
  case atStart => exact ⟨0, Nat.zero_le _, rfl, rfl⟩
  case round =>
    obtain ⟨k, hk, rfl, rfl⟩ := hrel
    have hck := cnt_le (eqf l c) k
    obtain ⟨x, hx⟩ := some_at' (show k < l.length by omega)
    obtain ⟨g, off, rfl, hcell⟩ := HL.out k x hx
    have hki : (k : Int) < (l.length : Int) := by omega
    by_cases e : k = t
    · subst e
      have hxc : x = c := by have := HT.out; rw [hx] at this; cases this; rfl
      subst hxc
      clear HL hx
      go_wp2
      go_ret2
      exact ⟨rfl, rfl⟩
    · have hC := cnt_succ (eqf l c) k
      rw [eqf_get hx] at hC
      clear HL hx
      by_cases hf : x = c
      · have hfI : ((x : Int) == (c : Int)) = true := by simp; omega
        have hfb : (x == c) = true := by simpa using hf
        rw [hfb] at hC
        have hm := cnt_mono (eqf l c) (show k + 1 ≤ t by omega)
        rw [hC] at hm
        simp only [Bool.toNat_true] at hm
        have hne : ((cnt (eqf l c) k : Int) == (cnt (eqf l c) t : Int)) = false := by simp; omega
        have HC : Hid _ := hC
        clear hC hf hfb
        go_wp2
        go_round
        case rel => exact ⟨k + 1, by omega, by go_num, by rw [HC.out]; go_num⟩
        case measure => simp [intOf]; omega
      · have hfI : ((x : Int) == (c : Int)) = false := by simp; omega
        have hfb : (x == c) = false := by simpa using hf
        rw [hfb] at hC
        have HC : Hid _ := hC
        clear hC hf hfb
        go_wp2
        go_round
        case rel => exact ⟨k + 1, by omega, by go_num, by rw [HC.out]; rfl⟩
        case measure => simp [intOf]; omega
set_option maxHeartbeats 1000000 in
theorem sel_no {w : World} {v : Value} {l : List Nat} (h : NumsAt .i64 w v l) (hn : l.length ≤ 100000) (c : Nat) (q : Int) (hq : q < 0 ∨ (cnt (eqf l c) l.length : Int) ≤ q) :
    Calls Try.prog 16 #[v, .int .i64 (c : Int), .int .i64 q] w fun e w' => e = .returned (.tuple #[.int .i64 0, .int .i64 1]) ∧ w' = w := by
  obtain ⟨a0, cap, rfl, hl⟩ := h.open
  have HL : Hid _ := hl
  clear hl h
  have HQ : Hid _ := hq
  clear hq
  go_enter Try.func16, Try.ntmps16
  go_wp2
  go_loop [8, 9] (fun m cc => ∃ k : Nat, k ≤ l.length ∧ cc = .int .i64 k ∧ m = .int .i64 (cnt (eqf l c) k : Int)) (fun _ cc => l.length - (intOf cc).toNat)
  case atStart => exact ⟨0, Nat.zero_le _, rfl, rfl⟩
  case round =>
    obtain ⟨k, hk, rfl, rfl⟩ := hrel
    have hck := cnt_le (eqf l c) k
    by_cases hlt : k < l.length
    · obtain ⟨x, hx⟩ := some_at' hlt
      obtain ⟨g, off, rfl, hcell⟩ := HL.out k x hx
      have hki : (k : Int) < (l.length : Int) := by omega
      have hC := cnt_succ (eqf l c) k
      rw [eqf_get hx] at hC
      clear HL hx
      by_cases hf : x = c
      · have hfI : ((x : Int) == (c : Int)) = true := by simp; omega
        have hfb : (x == c) = true := by simpa using hf
        rw [hfb] at hC
        have hm := cnt_mono (eqf l c) (show k + 1 ≤ l.length by omega)
        rw [hC] at hm
        simp only [Bool.toNat_true] at hm
        have hne : ((cnt (eqf l c) k : Int) == q) = false := by
          have := HQ.out
          simp; omega
        have HC : Hid _ := hC
        clear hC hf hfb
        go_wp2
        go_round
        case rel => exact ⟨k + 1, by omega, by go_num, by rw [HC.out]; go_num⟩
        case measure => simp [intOf]; omega
      · have hfI : ((x : Int) == (c : Int)) = false := by simp; omega
        have hfb : (x == c) = false := by simpa using hf
        rw [hfb] at hC
        have HC : Hid _ := hC
        clear hC hf hfb
        go_wp2
        go_round
        case rel => exact ⟨k + 1, by omega, by go_num, by rw [HC.out]; rfl⟩
        case measure => simp [intOf]; omega
    · obtain rfl : k = l.length := by omega
      go_wp2
      go_ret2
      exact ⟨rfl, rfl⟩

/-! ### Below -/
theorem bel_next {l : List Nat} {x k c z : Nat} (hz : l[k]? = some z) (hx : x ≤ k) : bel l x (k + 1) c = bel l x k c + (decide (z < c)).toNat := by
  have hlt : k < l.length := by
    rcases Nat.lt_or_ge k l.length with h | h
    · exact h
    · rw [List.getElem?_eq_none h] at hz; cases hz
  unfold bel
  rw [List.take_add_one, hz, List.drop_append_of_le_length (by simp; omega), List.filter_append, List.length_append]
  congr 1
  simp only [Option.toList_some, List.filter_cons, List.filter_nil]
  cases decide (z < c) <;> rfl
theorem bel_same (l : List Nat) (x c : Nat) : bel l x x c = 0 := by
  unfold bel
  rw [List.drop_eq_nil_of_le (by simp; omega)]; rfl
set_option maxHeartbeats 1000000 in
theorem below_no {w : World} {v : Value} {l : List Nat} (h : NumsAt .i64 w v l) (x y c : Int) (hs : ¬ (0 ≤ x ∧ x ≤ y ∧ y ≤ (l.length : Int))) :
    Calls Try.prog 60 #[v, .agg #[.int .i64 x, .int .i64 y], .int .i64 c] w fun e w' => e = .returned (.tuple #[.int .i64 0, .int .i64 1]) ∧ Below w.heap.size w w' := by
  obtain ⟨a0, cap, rfl, hd⟩ := h.open
  clear hd
  have HSp : Hid (∀ w2, Calls Try.prog 84 _ w2 _) := fun w2 => span_any x y (l.length : Int) w2
  rw [decide_eq_false hs] at HSp
  clear hs h
  go_enter Try.func60, Try.ntmps60
  go_wp2_with fail
  refine (HSp.out _).mono ?_
  rintro e w1 ⟨rfl, hB1⟩
  go_wp2
  go_ret2
  exact ⟨rfl, chain ((Below.refl _ _).alloc (Nat.le_refl _) _) hB1⟩
set_option maxHeartbeats 2000000 in
theorem below_yes {w : World} {v : Value} {l : List Nat} (h : NumsAt .i64 w v l) (hn : l.length ≤ 100000) (x y c : Nat) (hxy : x ≤ y) (hy : y ≤ l.length) (X Y C : Int) (hX : X = (x : Int)) (hY : Y = (y : Int)) (hC : C = (c : Int)) :
    Calls Try.prog 60 #[v, .agg #[.int .i64 X, .int .i64 Y], .int .i64 C] w fun e w' => e = .returned (.tuple #[.int .i64 (bel l x y c : Int), .int .i64 0]) ∧ Below w.heap.size w w' := by
  subst hX hY hC
  obtain ⟨a0, cap, rfl, hd⟩ := h.open
  have HL : Hid _ := hd
  clear hd h
  have HSp : Hid (∀ w2, Calls Try.prog 84 _ w2 _) := fun w2 => span_any (x : Int) (y : Int) (l.length : Int) w2
  rw [decide_eq_true (show (0 : Int) ≤ (x : Int) ∧ (x : Int) ≤ (y : Int) ∧ (y : Int) ≤ (l.length : Int) by omega)] at HSp
  have hnew : Below w.heap.size w (w.alloc (.cells #[.int .i64 (x : Int), .int .i64 (y : Int)] 32)) := (Below.refl _ _).alloc (Nat.le_refl _) _
  have HX : Hid _ := box2_new w (.int .i64 (x : Int)) (.int .i64 (y : Int)) 32
  have HB : Hid _ := hnew
  clear hnew
  go_enter Try.func60, Try.ntmps60
  go_wp2_with fail
  refine (HSp.out _).mono ?_
  rintro e w1 ⟨rfl, hB1⟩
  have hX1 := HX.out.below hB1
  have k0 := hX1.c0
  have k1 := hX1.c1
  have HB1 : Hid _ := chain HB.out hB1
  clear hX1 hB1
  go_wp2
  go_loop [9, 10] (fun m cc => ∃ k : Nat, x ≤ k ∧ k ≤ y ∧ cc = .int .i64 k ∧ m = .int .i64 (bel l x k c : Int)) (fun _ cc => y - (intOf cc).toNat)
  case atStart => exact ⟨x, Nat.le_refl _, hxy, rfl, by rw [bel_same]; rfl⟩
  case round =>
    obtain ⟨k, hk1, hk2, rfl, rfl⟩ := hrel
    have hbl := bel_le l x k c
    by_cases hlt : k < y
    · obtain ⟨z, hz⟩ := some_at' (show k < l.length by omega)
      obtain ⟨g, off, rfl, hcell0⟩ := HL.out k z hz
      have hcell := cell_kept HB1.out _ _ hcell0
      have hki : (k : Int) < (l.length : Int) := by omega
      have hky : (k : Int) < (y : Int) := by omega
      have hN := bel_next (c := c) hz hk1
      clear HL hz hcell0
      by_cases hf : z < c
      · have hfI : (z : Int) < (c : Int) := by omega
        rw [decide_eq_true hf] at hN
        have HN : Hid _ := hN
        clear hN
        go_wp2
        go_round
        case rel => exact ⟨k + 1, by omega, by omega, by go_num, by rw [HN.out]; go_num⟩
        case measure => simp [intOf]; omega
      · have hfI : ¬ (z : Int) < (c : Int) := by omega
        rw [decide_eq_false hf] at hN
        have HN : Hid _ := hN
        clear hN
        go_wp2
        go_round
        case rel => exact ⟨k + 1, by omega, by omega, by go_num, by rw [HN.out]; rfl⟩
        case measure => simp [intOf]; omega
    · obtain rfl : k = y := by omega
      go_wp2
      go_ret2
      exact ⟨rfl, HB1.out⟩
end Go.Proofs.Ytphjbbbnbmafnaa.R
