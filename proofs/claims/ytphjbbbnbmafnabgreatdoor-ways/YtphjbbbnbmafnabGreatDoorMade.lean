/-
  (*succ.Bits).find and Select over a vector that lies in memory as NewBits makes it: where the k-th one (or the k-th zero) is; Select: that, or ErrRange; nothing that was there is written. The vector's reading is the one condition.
  succ.bitsOfWords and succ.NewBits: from a text of at most 100000 letters 0 and 1 NewBits makes its vector of bits in new memory and answers OK; from any other text it answers nil and ErrInput; nothing that was there is written. No condition but that a string is no longer than Go allows.
-/
import Derived.Test.YtphjbbbnbmafnabGreatDoorRank
import Derived.Below
namespace Go.Proofs.YtphjbbbnbmafnabGreatDoor
open Go.RowKit

theorem BitsAt.kept {w w' : World} {b bw ba n : Nat} {f : Nat → Bool} {W : Nat → Nat} (hb : BitsAt w b bw ba f n W) (h : ∀ p v, w.cell? p = some v → w'.cell? p = some v) : BitsAt w' b bw ba f n W :=
  ⟨hb.hn, h _ _ hb.len, h _ _ hb.ones, h _ _ hb.words, h _ _ hb.ahead, fun j hj => h _ _ (hb.word j hj), fun j hj => h _ _ (hb.ahd j hj), hb.wlt, hb.wbit, hb.out⟩
theorem cell_kept {w w' : World} (hB : Below w.heap.size w w') (p : Addr) (v : Value) (h : w.cell? p = some v) : w'.cell? p = some v := by
  rw [← h]; exact hB.cell (World.block_lt_of_cell? _ _ h)
theorem BitsAt.below {w w' : World} {b bw ba n : Nat} {f : Nat → Bool} {W : Nat → Nat} (hb : BitsAt w b bw ba f n W) (hB : Below w.heap.size w w') : BitsAt w' b bw ba f n W :=
  hb.kept (cell_kept hB)
theorem BitsAt.drewN {w : World} {b bw ba n : Nat} {f : Nat → Bool} {W : Nat → Nat} (hb : BitsAt w b bw ba f n W) (q : Nat) : BitsAt (w.drewN q) b bw ba f n W :=
  hb.kept (fun _ _ h => h)

/-- the places that have a one, or a zero -/
def side (f : Nat → Bool) (one : Bool) (i : Nat) : Bool := f i == one
theorem side_true (f : Nat → Bool) : side f true = f := by funext i; simp [side]
theorem cnt_side (f : Nat → Bool) (m : Nat) : cnt (side f false) m + cnt f m = m := by
  induction m with
  | zero => rfl
  | succ m ih =>
    rw [cnt_succ, cnt_succ]
    have e : side f false m = !f m := by unfold side; cases f m <;> rfl
    rw [e]
    cases f m <;> simp <;> omega
theorem cnt_sideI (f : Nat → Bool) (m : Nat) (M : Int) (h : M = (m : Int)) : M - (cnt f m : Int) = (cnt (side f false) m : Int) := by
  have := cnt_side f m; omega

set_option maxHeartbeats 400000 in
/-- aheadOfWord: the ones (or the zeros) ahead of a word. -/
theorem aow_any {w : World} {b bw ba n : Nat} {f : Nat → Bool} {W : Nat → Nat} (hb : BitsAt w b bw ba f n W) (one : Bool) (i : Nat) (hi : i < n / 64 + 1) :
    Calls Tryz.prog 157 #[.pointer (some ⟨b, 0, none⟩), .int .i64 (i : Int), .bool one] w fun e w' => e = .returned (.int .i64 (cnt (side f one) (64 * i) : Int)) ∧ w' = w := by
  have h3 := hb.ahead
  have ha := hb.ahd i hi
  have hn := hb.hn
  have hc := cnt_le f (64 * i)
  have hi1 : (i : Int) < ((n / 64 + 1 : Nat) : Int) := by omega
  cases one
  · have HS : Hid _ := cnt_sideI f (64 * i) ((i : Int) * 64) (by omega)
    go_enter Tryz.func157, Tryz.ntmps157
    go_wp2
    go_ret
    exact ⟨ret1_int HS.out, rfl⟩
  · rw [side_true]
    go_enter Tryz.func157, Tryz.ntmps157
    go_wp2
    go_ret
    exact ⟨rfl, rfl⟩

set_option maxHeartbeats 400000 in
theorem clos_any {w : World} {b bw ba n : Nat} {f : Nat → Bool} {W : Nat → Nat} (hb : BitsAt w b bw ba f n W) (B C D : Nat) (k : Int) (one : Bool) (hB : w.cell? ⟨B, 0, none⟩ = some (.pointer (some ⟨b, 0, none⟩))) (hC : w.cell? ⟨C, 0, none⟩ = some (.bool one)) (hD : w.cell? ⟨D, 0, none⟩ = some (.int .i64 k)) (i : Nat) (hi : i < n / 64 + 1) :
    Calls Tryz.prog 156 #[.int .i64 (i : Int), .pointer (some ⟨B, 0, none⟩), .pointer (some ⟨C, 0, none⟩), .pointer (some ⟨D, 0, none⟩)] w fun e w' => e = .returned (.bool (decide (k < (cnt (side f one) (64 * i) : Int)))) ∧ ∃ q, w' = w.drewN q := by
  have hc := cnt_le (side f one) (64 * i)
  have hn := hb.hn
  have HA : Hid (∀ q, Calls Tryz.prog 157 _ _ _) := fun q => aow_any (hb.drewN q) one i hi
  go_enter Tryz.func156, Tryz.ntmps156
  go_wp2
  go_quiet ((go_at_call 157; refine (HA.out _).mono ?_; rintro e w'' ⟨rfl, rfl⟩; exact ⟨rfl, _, rfl⟩))
  go_wp2
  go_ret
  exact ⟨rfl, _, rfl⟩

set_option maxHeartbeats 1000000 in
theorem search_any (n : Nat) (p : Nat → Bool) (B C D : Nat) (w : World) (hsz : n < 4611686018427387904)
    (hf : ∀ (m i : Nat), i < n → Calls Tryz.prog 156 #[.int .i64 (i : Int), .pointer (some ⟨B, 0, none⟩), .pointer (some ⟨C, 0, none⟩), .pointer (some ⟨D, 0, none⟩)] (w.drewN m) fun e w' => e = .returned (.bool (p i)) ∧ ∃ q, w' = (w.drewN m).drewN q)
    (hmono : ∀ a b, a ≤ b → b < n → p a = true → p b = true) :
    Calls Tryz.prog 114 #[.int .i64 (n : Int), .func (.func 156) #[] #[.pointer (some ⟨B, 0, none⟩), .pointer (some ⟨C, 0, none⟩), .pointer (some ⟨D, 0, none⟩)]] w fun e w' => ∃ r : Nat, e = .returned (.int .i64 (r : Int)) ∧ (∃ q, w' = w.drewN q) ∧ r ≤ n ∧ (∀ t, t < r → p t = false) ∧ (∀ t, r ≤ t → t < n → p t = true) := by
  have HF : Hid _ := hf
  have M : Hid _ := hmono
  clear hf hmono
  go_enter Tryz.func114, Tryz.ntmps114
  go_wp2
  go_loopw [5, 6] (fun s5 s6 wr => ∃ lo hi q : Nat, s5 = .int .i64 lo ∧ s6 = .int .i64 hi ∧ lo ≤ hi ∧ hi ≤ n ∧ wr = w.drewN q ∧ Hid ((∀ t, t < lo → p t = false) ∧ (∀ t, hi ≤ t → t < n → p t = true))) (fun s5 s6 _ => (intOf s6 - intOf s5).toNat)
  case atStart => exact ⟨0, n, 0, rfl, rfl, Nat.zero_le _, Nat.le_refl _, rfl, (⟨fun t ht => absurd ht (Nat.not_lt_zero _), fun t h1 h2 => by omega⟩ : (∀ t, t < 0 → p t = false) ∧ (∀ t, n ≤ t → t < n → p t = true))⟩
  case round =>
    obtain ⟨lo, hi, q, rfl, rfl, hlh, hin, rfl, I⟩ := hrel
    by_cases hlt : lo < hi
    · have ee : (((lo + hi) / 2 : Nat) : Int) = ((lo : Int) + (hi : Int)) / 2 := by omega
      cases hp : p ((lo + hi) / 2)
      · have HP : Hid (p ((lo + hi) / 2) = false) := hp
        clear hp
        have EE : Hid _ := ee
        clear ee
        go_wp2_with (go_at_call 156; have hc := HF.out q ((lo + hi) / 2) (by omega); rw [EE.out, HP.out] at hc; refine hc.mono ?_; clear hc; rintro e w' ⟨rfl, nq, rfl⟩)
        go_roundw
        case rel =>
          have I2 : Hid ((∀ t, t < (lo + hi) / 2 + 1 → p t = false) ∧ (∀ t, hi ≤ t → t < n → p t = true)) := ⟨fun t ht => (by
            cases h : p t with
            | false => rfl
            | true => have := M.out t ((lo + hi) / 2) (by omega) (by omega) h; rw [HP.out] at this; cases this), I.out.2⟩
          exact ⟨(lo + hi) / 2 + 1, hi, q + nq, by rw [show ((lo : Int) + (hi : Int)) / 2 + 1 = (((lo + hi) / 2 + 1 : Nat) : Int) by omega], rfl, by omega, hin, rfl, I2⟩
        case measure => simp [intOf]; omega
      · have HP : Hid (p ((lo + hi) / 2) = true) := hp
        clear hp
        have EE : Hid _ := ee
        clear ee
        go_wp2_with (go_at_call 156; have hc := HF.out q ((lo + hi) / 2) (by omega); rw [EE.out, HP.out] at hc; refine hc.mono ?_; clear hc; rintro e w' ⟨rfl, nq, rfl⟩)
        go_roundw
        case rel =>
          have I2 : Hid ((∀ t, t < lo → p t = false) ∧ (∀ t, (lo + hi) / 2 ≤ t → t < n → p t = true)) := ⟨I.out.1, fun t ht htn => M.out ((lo + hi) / 2) t ht htn HP.out⟩
          exact ⟨lo, (lo + hi) / 2, q + nq, rfl, by rw [show ((lo : Int) + (hi : Int)) / 2 = (((lo + hi) / 2 : Nat) : Int) by omega], by omega, by omega, rfl, I2⟩
        case measure => simp [intOf]; omega
    · obtain rfl : hi = lo := by omega
      go_wp2
      go_ret
      exact ⟨hi, rfl, ⟨q, rfl⟩, hin, I.out.1, I.out.2⟩

theorem cnt_find (g : Nat → Bool) (k : Nat) : ∀ m, k < cnt g m → ∃ p, p < m ∧ g p = true ∧ cnt g p = k := by
  intro m
  induction m with
  | zero => intro h; simp [cnt] at h
  | succ m ih =>
    intro h
    by_cases e : k < cnt g m
    · obtain ⟨p, a, b, c⟩ := ih e
      exact ⟨p, by omega, b, c⟩
    · rw [cnt_succ] at h
      cases hg : g m with
      | false => rw [hg] at h; simp at h; omega
      | true => rw [hg] at h; simp at h; exact ⟨m, by omega, hg, by omega⟩
theorem cnt_uniq (g : Nat → Bool) {p q : Nat} (hp : g p = true) (hq : g q = true) (h : cnt g p = cnt g q) : p = q := by
  have key : ∀ a b, a < b → g a = true → cnt g a < cnt g b := fun a b hab ha => by
    have h1 := cnt_mono g (show a + 1 ≤ b by omega)
    rw [cnt_succ, ha] at h1
    simp at h1; omega
  rcases Nat.lt_trichotomy p q with a | a | a
  · have := key p q a hp; omega
  · exact a
  · have := key q p a hq; omega
theorem sel_at (X p : Nat) (hX : X < 18446744073709551616) (hp : p < 64) (ht : X.testBit p = true) (y : Int) (hy : y = (cnt X.testBit p : Int)) (Y : Int) (hY : Y = (X : Int)) (w : World) :
    Calls Tryz.prog 158 #[.int .u64 Y, .int .i64 y] w fun e w' => e = .returned (.int .i64 (p : Int)) ∧ w' = w := by
  subst hy hY
  refine (sel_any X (cnt X.testBit p) hX ?_ w).mono ?_
  · have := cnt_mono X.testBit (show p + 1 ≤ 64 by omega)
    rw [cnt_succ, ht] at this
    simp at this
    unfold pop; omega
  · rintro e w' ⟨s, rfl, rfl, _, h2, h3⟩
    obtain rfl : s = p := cnt_uniq _ h2 ht h3
    exact ⟨rfl, rfl⟩
theorem not_u64 (x : Nat) (hx : x < 18446744073709551616) : bits .xor .u64 IntKind.u64.max (x : Int) = ((18446744073709551615 - x : Nat) : Int) := by
  have e : IntKind.u64.max = ((18446744073709551615 : Nat) : Int) := by decide
  rw [e, u64_xor_nat _ _ (by decide) hx]
  congr 1
  apply Nat.eq_of_testBit_eq
  intro i
  rw [show 18446744073709551615 - x = 2 ^ 64 - (x + 1) by omega, Nat.testBit_two_pow_sub_succ (by omega), Nat.testBit_xor, show (18446744073709551615 : Nat) = 2 ^ 64 - 1 from rfl, Nat.testBit_two_pow_sub_one]
  by_cases h : i < 64
  · simp [h]
  · have : x.testBit i = false := Nat.testBit_lt_two_pow (Nat.lt_of_lt_of_le hx (Nat.pow_le_pow_right (n := 2) (by decide) (show 64 ≤ i by omega)))
    simp [h, this]
theorem side_bit {w : World} {b bw ba n : Nat} {f : Nat → Bool} {W : Nat → Nat} (hb : BitsAt w b bw ba f n W) (one : Bool) (j t : Nat) (ht : t < 64) :
    (if one then W j else 18446744073709551615 - W j).testBit t = side f one (64 * j + t) := by
  have hl := hb.wlt j
  have h := hb.wbit j t ht
  cases one
  · have e : 18446744073709551615 - W j = 2 ^ 64 - (W j + 1) := by omega
    rw [if_neg (by simp), e, Nat.testBit_two_pow_sub_succ (by omega), h]
    simp [side, ht]
  · rw [if_pos rfl, h, side_true]
theorem word_of {w : World} {b bw ba n : Nat} {f : Nat → Bool} {W : Nat → Nat} (hb : BitsAt w b bw ba f n W) (one : Bool) (j : Nat) : cnt (side f one) (64 * j + 64) = cnt (side f one) (64 * j) + pop (if one then W j else 18446744073709551615 - W j) := by
  rw [cnt_add]; congr 1
  exact cnt_congr fun t ht => (side_bit hb one j t ht).symm
theorem search_sel {w : World} {b bw ba n : Nat} {f : Nat → Bool} {W : Nat → Nat} (hb : BitsAt w b bw ba f n W) (one : Bool) (B C D k : Nat) (hB : w.cell? ⟨B, 0, none⟩ = some (.pointer (some ⟨b, 0, none⟩))) (hC : w.cell? ⟨C, 0, none⟩ = some (.bool one)) (hD : w.cell? ⟨D, 0, none⟩ = some (.int .i64 (k : Int))) (hk : k < cnt (side f one) n) (L : Int) (hL : L = ((n / 64 + 1 : Nat) : Int)) :
    Calls Tryz.prog 114 #[.int .i64 L, .func (.func 156) #[] #[.pointer (some ⟨B, 0, none⟩), .pointer (some ⟨C, 0, none⟩), .pointer (some ⟨D, 0, none⟩)]] w fun e w' => ∃ j : Nat, e = .returned (.int .i64 ((j : Int) + 1)) ∧ (∃ q, w' = w.drewN q) ∧ j < n / 64 + 1 ∧ cnt (side f one) (64 * j) ≤ k ∧ k < cnt (side f one) (64 * j) + pop (if one then W j else 18446744073709551615 - W j) := by
  subst hL
  have hn := hb.hn
  refine (search_any (n / 64 + 1) (fun i => decide ((k : Int) < (cnt (side f one) (64 * i) : Int))) B C D w (by omega) (fun m i hi => clos_any (hb.drewN m) B C D k one hB hC hD i hi) ?_).mono ?_
  · intro x y hxy _ hx
    have := cnt_mono (side f one) (show 64 * x ≤ 64 * y by omega)
    simp only [decide_eq_true_eq] at hx ⊢
    omega
  · rintro e w' ⟨r, rfl, hq, hr, h1, h2⟩
    have hr0 : r ≠ 0 := by
      intro h0
      have h7 : (k : Int) < (cnt (side f one) (64 * 0) : Int) := of_decide_eq_true (h2 0 (by omega) (by omega))
      rw [show cnt (side f one) (64 * 0) = 0 from rfl] at h7
      omega
    have h3 := h1 (r - 1) (by omega)
    simp only [decide_eq_false_iff_not] at h3
    refine ⟨r - 1, ?_, hq, by omega, by omega, ?_⟩
    · rw [show ((r - 1 : Nat) : Int) + 1 = (r : Int) by omega]
    · rw [← word_of hb]
      by_cases e : r < n / 64 + 1
      · have := h2 r (Nat.le_refl _) e
        simp only [decide_eq_true_eq] at this
        rw [show 64 * (r - 1) + 64 = 64 * r by omega]; omega
      · have := cnt_mono (side f one) (show n ≤ 64 * (r - 1) + 64 by omega)
        omega

theorem two_cells (w : World) (x y : Value) (s t : TypeId) : ((w.alloc (.cells #[x] s)).alloc (.cells #[y] t)).cell? ⟨w.heap.size, 0, none⟩ = some x ∧ ((w.alloc (.cells #[x] s)).alloc (.cells #[y] t)).cell? ⟨w.heap.size + 1, 0, none⟩ = some y := by
  constructor
  · simp
  · simp
theorem three_cells (w : World) (x y z : Value) (s t u : TypeId) : (((w.alloc (.cells #[x] s)).alloc (.cells #[y] t)).alloc (.cells #[z] u)).cell? ⟨w.heap.size, 0, none⟩ = some x ∧ (((w.alloc (.cells #[x] s)).alloc (.cells #[y] t)).alloc (.cells #[z] u)).cell? ⟨w.heap.size + 1, 0, none⟩ = some y ∧ (((w.alloc (.cells #[x] s)).alloc (.cells #[y] t)).alloc (.cells #[z] u)).cell? ⟨w.heap.size + 1 + 1, 0, none⟩ = some z := by
  have e1 := two_cells w x y s t
  have hB : Below ((w.alloc (.cells #[x] s)).alloc (.cells #[y] t)).heap.size ((w.alloc (.cells #[x] s)).alloc (.cells #[y] t)) (((w.alloc (.cells #[x] s)).alloc (.cells #[y] t)).alloc (.cells #[z] u)) := (Below.refl _ _).alloc (Nat.le_refl _) _
  refine ⟨cell_kept hB _ _ e1.1, cell_kept hB _ _ e1.2, ?_⟩
  have e2 : ((w.alloc (.cells #[x] s)).alloc (.cells #[y] t)).heap.size = w.heap.size + 1 + 1 := by simp
  rw [← e2]
  generalize (w.alloc (.cells #[x] s)).alloc (.cells #[y] t) = w2
  simp
theorem three_below (w : World) (x y z : Obj) : Below w.heap.size w (((w.alloc x).alloc y).alloc z) := (((Below.refl _ _).alloc (Nat.le_refl _) _).alloc (by simp) _).alloc (by simp; omega) _

theorem find_end {w w0 : World} {b bw ba n : Nat} {f : Nat → Bool} {W : Nat → Nat} (hb : BitsAt w b bw ba f n W) (one : Bool) (k j p : Nat) (hk : k < cnt (side f one) n) (hp : p < 64) (ht : (if one then W j else 18446744073709551615 - W j).testBit p = true) (hc : cnt (if one then W j else 18446744073709551615 - W j).testBit p = k - cnt (side f one) (64 * j)) (h4 : cnt (side f one) (64 * j) ≤ k) (hB : Below w.heap.size w w0) (S : Int) (hS : S = (j : Int) * 64 + (p : Int)) :
    ∃ s : Nat, Ending.returned (.int .i64 S) = .returned (.int .i64 (s : Int)) ∧ s < n ∧ f s = one ∧ cnt (side f one) s = k ∧ Below w.heap.size w w0 := by
  have hf : side f one (64 * j + p) = true := by rw [← side_bit hb one j p hp]; exact ht
  have hcc : cnt (side f one) (64 * j + p) = k := by
    rw [cnt_add, cnt_congr (g := (if one then W j else 18446744073709551615 - W j).testBit) (fun t ht => (side_bit hb one j t (by omega)).symm), hc]; omega
  refine ⟨64 * j + p, by rw [hS]; exact ret1_int (by omega), ?_, by simpa [side] using hf, hcc, hB⟩
  by_cases e : 64 * j + p < n
  · exact e
  · have := cnt_mono (side f one) (show n ≤ 64 * j + p by omega)
    omega

set_option maxHeartbeats 1000000 in
/-- find: where the k-th one (zero) is. -/
theorem find_any {w : World} {b bw ba n : Nat} {f : Nat → Bool} {W : Nat → Nat} (hb : BitsAt w b bw ba f n W) (one : Bool) (k : Nat) (h : k < cnt (side f one) n) (K : Int) (hK : K = (k : Int)) :
    Calls Tryz.prog 152 #[.pointer (some ⟨b, 0, none⟩), .int .i64 K, .bool one] w fun e w' => ∃ s : Nat, e = .returned (.int .i64 (s : Int)) ∧ s < n ∧ f s = one ∧ cnt (side f one) s = k ∧ Below w.heap.size w w' := by
  subst hK
  have hB := three_below w (.cells #[.pointer (some ⟨b, 0, none⟩)] 57) (.cells #[.int .i64 (k : Int)] 3) (.cells #[.bool one] 4)
  have hb1 := hb.below hB
  have hc := three_cells w (.pointer (some ⟨b, 0, none⟩)) (.int .i64 (k : Int)) (.bool one) 57 3 4
  have hn := hb.hn
  have h2 := hb1.words
  have hk2 : (k : Int) ≤ 100000 := by have := cnt_le (side f one) n; omega
  have HC : Hid _ := hc
  have hkk := h
  clear hc
  go_enter Tryz.func152, Tryz.ntmps152
  go_wp2_with fail
  refine (search_sel hb1 one _ _ _ k HC.out.1 HC.out.2.2 HC.out.2.1 h _ (by omega)).mono ?_
  rintro e w' ⟨j, rfl, ⟨q, rfl⟩, hj, h4, h5⟩
  obtain ⟨p, hp, ht, hcp⟩ := cnt_find (if one then W j else 18446744073709551615 - W j).testBit (k - cnt (side f one) (64 * j)) 64 (by unfold pop at h5; omega)
  have hw := hb1.word j hj
  have hl := hb.wlt j
  have hj1 : (j : Int) < ((n / 64 + 1 : Nat) : Int) := by omega
  have hj2 : (j : Int) < (n : Int) / 64 + 1 := by omega
  have hj0 : (0 : Int) ≤ (j : Int) := by omega
  have hm : IntKind.i64.wrap ((j : Int) * 64) = (j : Int) * 64 := by rw [IntKind.wrap_i64]; omega
  have hcl := cnt_le (side f one) (64 * j)
  have HT : Hid _ := ht
  have HP : Hid _ := hcp
  clear ht hcp hB
  cases one
  · have HX : Hid (bits .xor .u64 IntKind.u64.max (W j : Int) = ((if false = true then W j else 18446744073709551615 - W j : Nat) : Int)) := not_u64 _ hl
    go_wp2
    go_quiet ((first | (go_at_call 157; refine (aow_any (hb1.drewN _) _ j hj).mono ?_; rintro e w'' ⟨rfl, rfl⟩; exact ⟨rfl, _, rfl⟩) | (go_at_call 158; refine (sel_at _ p (by simp; omega) hp HT.out ((k : Int) - (cnt (side f false) (64 * j) : Int)) (by rw [HP.out]; omega) _ HX.out _).mono ?_; rintro e w'' ⟨rfl, rfl⟩; exact ⟨rfl, _, rfl⟩)))
    go_wp2
    go_ret
    exact find_end hb _ k j p hkk hp HT.out HP.out h4 (below_drewN (below_drewN (three_below w _ _ _) _) _) _ rfl
  · have HX : Hid ((W j : Int) = ((if true = true then W j else 18446744073709551615 - W j : Nat) : Int)) := (by simp : _ = _)
    go_wp2
    go_quiet ((first | (go_at_call 157; refine (aow_any (hb1.drewN _) _ j hj).mono ?_; rintro e w'' ⟨rfl, rfl⟩; exact ⟨rfl, _, rfl⟩) | (go_at_call 158; refine (sel_at _ p (by simp; omega) hp HT.out ((k : Int) - (cnt (side f true) (64 * j) : Int)) (by rw [HP.out]; omega) _ HX.out _).mono ?_; rintro e w'' ⟨rfl, rfl⟩; exact ⟨rfl, _, rfl⟩)))
    go_wp2
    go_ret
    exact find_end hb _ k j p hkk hp HT.out HP.out h4 (below_drewN (below_drewN (three_below w _ _ _) _) _) _ rfl

set_option maxHeartbeats 400000 in
theorem select_no {w : World} {b bw ba n : Nat} {f : Nat → Bool} {W : Nat → Nat} (hb : BitsAt w b bw ba f n W) (k : Int) (h : k < 0 ∨ (cnt f n : Int) ≤ k) :
    Calls Tryz.prog 137 #[.pointer (some ⟨b, 0, none⟩), .int .i64 k] w fun e w' => e = .returned (.tuple #[.int .i64 0, .int .i64 1]) ∧ Below w.heap.size w w' := by
  have h0 := hb.ones
  rcases h with h | h
  · go_enter Tryz.func137, Tryz.ntmps137
    go_wp2
    go_ret2
    exact ⟨rfl, Below.refl _ _⟩
  · have hd : ¬ k < 0 := by omega
    go_enter Tryz.func137, Tryz.ntmps137
    go_wp2
    go_ret2
    exact ⟨rfl, Below.refl _ _⟩
set_option maxHeartbeats 400000 in
theorem select_yes {w : World} {b bw ba n : Nat} {f : Nat → Bool} {W : Nat → Nat} (hb : BitsAt w b bw ba f n W) (k : Nat) (h : k < cnt f n) :
    Calls Tryz.prog 137 #[.pointer (some ⟨b, 0, none⟩), .int .i64 (k : Int)] w fun e w' => ∃ s : Nat, e = .returned (.tuple #[.int .i64 (s : Int), .int .i64 0]) ∧ s < n ∧ f s = true ∧ cnt f s = k ∧ Below w.heap.size w w' := by
  have h0 := hb.ones
  have hd : ¬ (k : Int) < 0 := by omega
  have hn := hb.hn
  have hcl := cnt_le f n
  have hf := find_any hb true k (by rw [side_true]; exact h) (k : Int) rfl
  rw [side_true] at hf
  have HF : Hid (Calls Tryz.prog 152 _ _ _) := hf
  clear hf
  go_enter Tryz.func137, Tryz.ntmps137
  go_wp2_with fail
  refine HF.out.mono ?_
  rintro e w' ⟨s, rfl, hs⟩
  go_wp2
  go_ret2
  exact ⟨s, rfl, hs⟩
end Go.Proofs.YtphjbbbnbmafnabGreatDoor

namespace Go.Proofs.YtphjbbbnbmafnabGreatDoor
open Go.RowKit

theorem Tryz.info112 : (Tryz.prog.info? 112).map (fun i => (i.zero, i.size, i.bytes)) = some (some (.int .u64 0), 1, 8) := by kernel_rfl
theorem Tryz.info141 : (Tryz.prog.info? 141).map (fun i => (i.zero, i.size, i.bytes)) = some (some (.int .u32 0), 1, 4) := by kernel_rfl

/-- the row of counts, so far: the first k are told -/
def Told (f : Nat → Bool) (L k : Nat) (xs : List Value) : Prop := xs.length = L ∧ ∀ j, j < k → xs[j]? = some (.int .u32 (cnt f (64 * j) : Int))
theorem told_step {f : Nat → Bool} {L k : Nat} {xs : List Value} (h : Told f L k xs) (hk : k < L) : Told f L (k + 1) (xs.set k (.int .u32 (cnt f (64 * k) : Int))) := by
  obtain ⟨h1, h2⟩ := h
  refine ⟨by simpa using h1, fun j hj => ?_⟩
  by_cases e : j = k
  · subst e; simp [h1, hk]
  · rw [List.getElem?_set_ne (by omega)]; exact h2 j (by omega)
theorem told_at {f : Nat → Bool} {L k j : Nat} {xs : List Value} (h : Told f L k xs) (hj : j < L) : ∃ v, xs[j]? = some v := ⟨xs[j]'(by rw [h.1]; exact hj), by simp [h.1, hj]⟩

theorem word_step {f : Nat → Bool} {W : Nat → Nat} (hwbit : ∀ j i, i < 64 → (W j).testBit i = f (64 * j + i)) (k : Nat) : ((cnt f (64 * (k + 1)) : Nat) : Int) = (cnt f (64 * k) : Int) + (pop (W k) : Int) := by
  rw [show 64 * (k + 1) = 64 * k + 64 from by omega, cnt_add, cnt_congr (g := (W k).testBit) (fun t ht => (hwbit k t ht).symm)]
  simp [pop]
theorem bits_made {w wr : World} {g n : Nat} {f : Nat → Bool} {W : Nat → Nat} (hn : n ≤ 100000) (hbel : Below w.heap.size w wr) (hcell : ∀ j, j < n / 64 + 1 → w.cell? ⟨g, j, none⟩ = some (.int .u64 (W j : Int)))
    (hcnt : ∀ j, j < n / 64 + 1 → wr.cell? ⟨w.heap.size, j, none⟩ = some (.int .u32 (cnt f (64 * j) : Int)))
    (hwlt : ∀ j, W j < 18446744073709551616) (hwbit : ∀ j i, i < 64 → (W j).testBit i = f (64 * j + i)) (hout : ∀ i, n ≤ i → f i = false) :
    BitsAt (wr.alloc (.cells #[.int .i64 (n : Int), .int .i64 (cnt f (64 * (n / 64 + 1)) : Int), .slice (some ⟨g, 0, none⟩) (n / 64 + 1) (n / 64 + 1), .slice (some ⟨w.heap.size, 0, none⟩) (n / 64 + 1) (n / 64 + 1)] 183)) wr.heap.size g w.heap.size f n W := by
  have hnew : ∀ o, Below wr.heap.size wr (wr.alloc o) := fun o => (Below.refl _ _).alloc (Nat.le_refl _) o
  have e : cnt f (64 * (n / 64 + 1)) = cnt f n := by
    rw [show 64 * (n / 64 + 1) = n + (64 * (n / 64 + 1) - n) from by omega, cnt_add, cnt_false (n := 64 * (n / 64 + 1) - n) (fun i _ => hout _ (by omega))]; omega
  refine ⟨hn, by simp, ?_, by simp, by simp, fun j hj => cell_kept (hnew _) _ _ (cell_kept hbel _ _ (hcell j hj)), fun j hj => cell_kept (hnew _) _ _ (hcnt j hj), hwlt, hwbit, hout⟩
  rw [← e]; simp

set_option maxHeartbeats 1000000 in
theorem bow_any {w : World} (g n : Nat) (f : Nat → Bool) (W : Nat → Nat) (hn : n ≤ 100000) (hcell : ∀ j, j < n / 64 + 1 → w.cell? ⟨g, j, none⟩ = some (.int .u64 (W j : Int)))
    (hwlt : ∀ j, W j < 18446744073709551616) (hwbit : ∀ j i, i < 64 → (W j).testBit i = f (64 * j + i)) (hout : ∀ i, n ≤ i → f i = false) :
    Calls Tryz.prog 74 #[.slice (some ⟨g, 0, none⟩) (n / 64 + 1) (n / 64 + 1), .int .i64 (n : Int)] w fun e w' => ∃ b ba, e = .returned (.pointer (some ⟨b, 0, none⟩)) ∧ BitsAt w' b g ba f n W ∧ Below w.heap.size w w' := by
  obtain ⟨i0, hi, hz0, hz1, hz2⟩ := info_parts Tryz.info141
  have HW : Hid _ := hwlt
  have HB : Hid _ := hwbit
  have HO : Hid _ := hout
  have HC : Hid _ := hcell
  clear hwlt hwbit hout hcell
  go_enter Tryz.func74, Tryz.ntmps74
  go_wp2_with (at_make; refine wpList_make_full _ rfl _ _ 181 rfl w.heap.size 141 i0 (.int .u32 0) 1 Tryz.underlying181 hi hz0 hz1 _ _ _ _ (n / 64 + 1) rfl rfl (by omega) (by omega) (by rw [hz2]; omega) (by unfold maxLen; omega) (Nat.le_refl _) ?_; intro w1 hown hgrow)
  have hstart : Told f (n / 64 + 1) 0 (madeCells (Value.int IntKind.u32 0).cells ((n / 64 + 1) * 1)).toList := ⟨by simp [size_madeCells], fun j hj => absurd hj (Nat.not_lt_zero _)⟩
  have hb1 : Below w.heap.size w w1 := (Below.refl _ _).grown hgrow (Nat.le_refl _) (fun k hk => by cases hk)
  generalize (madeCells (Value.int IntKind.u32 0).cells ((n / 64 + 1) * 1)).toList = xs0 at hown hstart
  clear hgrow
  go_loopw [6, 14] (fun s c wr => ∃ (k : Nat) (xs : List Value), k ≤ n / 64 + 1 ∧ c = .int .i64 k ∧ s = .int .i64 (cnt f (64 * k) : Int) ∧ wr.ownsRow w.heap.size 141 1 (.slice (some ⟨w.heap.size, 0, none⟩) (n / 64 + 1) (n / 64 + 1)) (n / 64 + 1) xs ∧ Told f (n / 64 + 1) k xs ∧ Below w.heap.size w wr) (fun _ c _ => n / 64 + 1 - (intOf c).toNat)
  case atStart => exact ⟨0, xs0, Nat.zero_le _, rfl, rfl, hown, hstart, hb1⟩
  case round =>
    clear hown hstart hb1
    obtain ⟨k, xs, hk, rfl, rfl, hown, htold, hbel⟩ := hrel
    have hcl := cnt_le f (64 * k)
    by_cases hlt : k < n / 64 + 1
    · have hw := cell_kept hbel _ _ (HC.out k hlt)
      obtain ⟨v, hv⟩ := told_at htold hlt
      have hold := (hown.cellAt k (by omega)).trans hv
      have hfr := hown.frozenAt k
      have hl := HW.out k
      have hpl := pop_le (W k)
      have hk1 : (k : Int) < ((n / 64 + 1 : Nat) : Int) := by omega
      have hk2 : (k : Int) < (n : Int) / 64 + 1 := by omega
      have hstored := hown.stored k (.int .u32 (cnt f (64 * k) : Int))
      have hb2 := hbel.setCell (p := ⟨w.heap.size, k, none⟩) (Nat.le_refl _) (.int .u32 (cnt f (64 * k) : Int))
      have ht2 := told_step htold hlt
      have HS : Hid _ := hstored
      have HB2 : Hid _ := hb2
      have HT2 : Hid _ := ht2
      clear hstored hb2 ht2 htold hown hbel hv
      go_wp2_with (go_at_call 105; refine (ones_any _ hl _).mono ?_; rintro e w' ⟨rfl, rfl⟩)
      go_roundw
      case rel => exact ⟨k + 1, _, by omega, by go_num, by rw [word_step HB.out k], HS.out.1, HT2.out, HB2.out⟩
      case measure => simp [intOf]; omega
    · obtain rfl : k = n / 64 + 1 := by omega
      go_wp2
      go_ret
      exact ⟨wr.heap.size, w.heap.size, rfl, bits_made hn hbel HC.out (fun j hj => (hown.cellAt j (by omega)).trans (htold.2 j hj)) HW.out HB.out HO.out, hbel.alloc hbel.size _⟩

/-! ### NewBits -/
def bitOf (s : ByteArray) (i : Nat) : Bool := s.data.toList[i]? == some 49
def okTo (s : ByteArray) (k : Nat) : Prop := ∀ i, i < k → s.data.toList[i]? = some 48 ∨ s.data.toList[i]? = some 49
def okB (s : ByteArray) : Bool := decide (s.size ≤ 100000) && s.data.toList.all (fun c => c == 48 || c == 49)

theorem at_k (s : ByteArray) (k : Nat) (h : k < s.size) : s.data.toList[k]? = some s[k] := by
  rw [Array.getElem?_toList, Array.getElem?_eq_getElem h]; rfl
theorem byte_is (c d : UInt8) (h : ((c.toNat : Int) == (d.toNat : Int)) = true) : c = d := by
  have h1 : (c.toNat : Int) = (d.toNat : Int) := eq_of_beq h
  exact UInt8.toNat_inj.1 (by omega)
theorem byte_not (c d : UInt8) (h : ((c.toNat : Int) == (d.toNat : Int)) = false) : c ≠ d := by
  intro e; subst e; simp at h
theorem okTo_succ {s : ByteArray} {k : Nat} (h : okTo s k) (hk : s.data.toList[k]? = some 48 ∨ s.data.toList[k]? = some 49) : okTo s (k + 1) := fun i hi => by
  by_cases e : i = k
  · subst e; exact hk
  · exact h i (by omega)
theorem okB_of {s : ByteArray} (hs : s.size ≤ 100000) (h : okTo s s.size) : okB s = true := by
  unfold okB
  rw [Bool.and_eq_true]
  refine ⟨by simpa using hs, ?_⟩
  rw [List.all_eq_true]
  intro c hc
  obtain ⟨i, hi, rfl⟩ := List.getElem_of_mem hc
  have := h i (by simpa using hi)
  rw [List.getElem?_eq_getElem hi] at this
  simpa using this
theorem not_okB {s : ByteArray} {k : Nat} (h : k < s.size) (h0 : s[k] ≠ 48) (h1 : s[k] ≠ 49) : okB s = false := by
  unfold okB
  rw [Bool.and_eq_false_iff]
  right
  rw [List.all_eq_false]
  refine ⟨s[k], ?_, by simp [h0, h1]⟩
  exact List.mem_of_getElem? (at_k s k h)
theorem not_okB_long {s : ByteArray} (h : 100000 < s.size) : okB s = false := by
  unfold okB
  rw [Bool.and_eq_false_iff]
  left
  simpa using h

def wordOf (f : Nat → Bool) (j : Nat) : Nat → Nat
  | 0 => 0
  | m + 1 => 2 ^ m * (f (64 * j + m)).toNat + wordOf f j m
theorem wordOf_lt (f : Nat → Bool) (j m : Nat) : wordOf f j m < 2 ^ m := by
  induction m with
  | zero => simp [wordOf]
  | succ m ih =>
    have := Bool.toNat_le (f (64 * j + m))
    have h2 : 2 ^ m * (f (64 * j + m)).toNat ≤ 2 ^ m * 1 := Nat.mul_le_mul_left _ this
    rw [Nat.pow_succ]; unfold wordOf; omega
theorem wordOf_bit (f : Nat → Bool) (j m i : Nat) : (wordOf f j m).testBit i = (decide (i < m) && f (64 * j + i)) := by
  induction m with
  | zero => simp [wordOf]
  | succ m ih =>
    unfold wordOf
    rw [Nat.testBit_two_pow_mul_add _ (wordOf_lt f j m)]
    by_cases e : i < m
    · rw [if_pos e, ih]; simp [e, Nat.lt_succ_of_lt e]
    · rw [if_neg e]
      by_cases e2 : i = m
      · subst e2
        cases f (64 * j + i) <;> simp
      · have : ¬ i < m + 1 := by omega
        have h1 : Nat.testBit 1 (i - m) = false := by rw [show 1 = 2 ^ 0 from rfl, Nat.testBit_two_pow]; simp; omega
        cases f (64 * j + m) <;> simp [this, h1]
theorem wordOf_64 (f : Nat → Bool) (j : Nat) : wordOf f j 64 < 18446744073709551616 := wordOf_lt f j 64

/-- the words of the first k bits -/
def upto (f : Nat → Bool) (k i : Nat) : Bool := f i && decide (i < k)
def Words (f : Nat → Bool) (L k : Nat) (xs : List Value) : Prop := xs.length = L ∧ ∀ j, j < L → xs[j]? = some (.int .u64 (wordOf (upto f k) j 64 : Int))
theorem wordOf_congr {f g : Nat → Bool} {j : Nat} (h : ∀ i, i < 64 → f (64 * j + i) = g (64 * j + i)) : wordOf f j 64 = wordOf g j 64 :=
  Nat.eq_of_testBit_eq fun i => by
    rw [wordOf_bit, wordOf_bit]
    by_cases e : i < 64
    · rw [h i e]
    · simp [e]
theorem words_start (f : Nat → Bool) (L : Nat) : Words f L 0 (madeCells (Value.int IntKind.u64 0).cells (L * 1)).toList := by
  refine ⟨by simp [size_madeCells], fun j hj => ?_⟩
  have e : wordOf (upto f 0) j 64 = 0 := Nat.eq_of_testBit_eq fun i => by rw [wordOf_bit]; simp [upto]
  rw [e]
  show (madeCells #[Value.int IntKind.u64 0] (L * 1)).toList[j]? = _
  rw [toList_madeCells_one]
  simp [hj]
theorem words_keep {f : Nat → Bool} {L k : Nat} {xs : List Value} (h : Words f L k xs) (hf : f k = false) : Words f L (k + 1) xs := by
  refine ⟨h.1, fun j hj => ?_⟩
  rw [h.2 j hj, wordOf_congr]
  intro i _
  unfold upto
  by_cases e : 64 * j + i = k
  · rw [e, hf]; rfl
  · have : (64 * j + i < k) = (64 * j + i < k + 1) := propext (by omega)
    simp only [this]
theorem word_key {f : Nat → Bool} {k : Nat} (hf : f k = true) : (wordOf (upto f k) (k / 64) 64 ||| 2 ^ (k % 64)) = wordOf (upto f (k + 1)) (k / 64) 64 := by
  refine Nat.eq_of_testBit_eq fun i => ?_
  rw [Nat.testBit_or, wordOf_bit, wordOf_bit, Nat.testBit_two_pow]
  unfold upto
  by_cases e2 : i < 64
  · by_cases e3 : k % 64 = i
    · have : 64 * (k / 64) + i = k := by omega
      simp [e2, this, hf, e3]
    · have h2 : (64 * (k / 64) + i < k) = (64 * (k / 64) + i < k + 1) := propext (by omega)
      simp [e2, e3, h2]
  · have : k % 64 ≠ i := by omega
    simp [e2, this]
theorem words_set {f : Nat → Bool} {L k : Nat} {xs : List Value} (h : Words f L k xs) (hf : f k = true) (u : Int) (hu : u = ((wordOf (upto f k) (k / 64) 64 ||| 2 ^ (k % 64) : Nat) : Int)) : Words f L (k + 1) (xs.set (k / 64) (.int .u64 u)) := by
  refine ⟨by simpa using h.1, fun j hj => ?_⟩
  by_cases e : j = k / 64
  · subst e
    rw [List.getElem?_set_self (by rw [h.1]; exact hj), hu, word_key hf]
  · rw [List.getElem?_set_ne (by omega), h.2 j hj, wordOf_congr]
    intro i hi
    unfold upto
    have h2 : (64 * j + i < k) = (64 * j + i < k + 1) := propext (by omega)
    simp only [h2]
theorem or_int (x k : Nat) (hx : x < 18446744073709551616) (hk : k < 64) : bits .or .u64 (x : Int) (IntKind.u64.wrap ((2 : Int) ^ k)) = ((x ||| 2 ^ k : Nat) : Int) := by
  have h1 : 2 ^ k ≤ 2 ^ 63 := Nat.pow_le_pow_right (by decide) (by omega)
  have e : IntKind.u64.wrap ((2 : Int) ^ k) = ((2 ^ k : Nat) : Int) := by
    rw [← two_pow_int, IntKind.wrap_u64]; generalize 2 ^ k = m at *; omega
  rw [e, u64_or_nat _ _ hx (by omega)]
end Go.Proofs.YtphjbbbnbmafnabGreatDoor
