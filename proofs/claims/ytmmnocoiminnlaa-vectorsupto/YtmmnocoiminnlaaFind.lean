/-
  (*succ.Bits).Select over a vector that lies in memory as NewBits makes it: where the k-th one is, or ErrRange; nothing that was there is written. The vector's reading is the one condition.
-/
import Derived.Test.YtmmnocoiminnlaaRank
import Derived.Below
namespace Go.Proofs.Ytmmnocoiminnlaa
open Go.RowKit

theorem BitsAt.kept {w w' : World} {b bw ba n : Nat} {f : Nat → Bool} {W : Nat → Nat} (hb : BitsAt w b bw ba f n W) (h : ∀ p v, w.cell? p = some v → w'.cell? p = some v) : BitsAt w' b bw ba f n W :=
  ⟨hb.hn, h _ _ hb.len, h _ _ hb.ones, h _ _ hb.words, h _ _ hb.ahead, fun j hj => h _ _ (hb.word j hj), fun j hj => h _ _ (hb.ahd j hj), hb.wlt, hb.wbit, hb.out⟩
theorem cell_kept {w w' : World} (hB : Below w.heap.size w w') (p : Addr) (v : Value) (h : w.cell? p = some v) : w'.cell? p = some v := by
  rw [← h]; exact hB.cell (World.block_lt_of_cell? _ _ h)
theorem BitsAt.below {w w' : World} {b bw ba n : Nat} {f : Nat → Bool} {W : Nat → Nat} (hb : BitsAt w b bw ba f n W) (hB : Below w.heap.size w w') : BitsAt w' b bw ba f n W :=
  hb.kept (cell_kept hB)
theorem BitsAt.drewN {w : World} {b bw ba n : Nat} {f : Nat → Bool} {W : Nat → Nat} (hb : BitsAt w b bw ba f n W) (q : Nat) : BitsAt (w.drewN q) b bw ba f n W :=
  hb.kept (fun _ _ h => h)

set_option maxHeartbeats 400000 in
theorem clos_any {w : World} {b bw ba n : Nat} {f : Nat → Bool} {W : Nat → Nat} (hb : BitsAt w b bw ba f n W) (B C : Nat) (k : Int) (hB : w.cell? ⟨B, 0, none⟩ = some (.pointer (some ⟨b, 0, none⟩))) (hC : w.cell? ⟨C, 0, none⟩ = some (.int .i64 k)) (i : Nat) (hi : i < n / 64 + 1) :
    Calls Try.prog 19 #[.int .i64 (i : Int), .pointer (some ⟨B, 0, none⟩), .pointer (some ⟨C, 0, none⟩)] w fun e w' => e = .returned (.bool (decide (k < (cnt f (64 * i) : Int)))) ∧ ∃ q, w' = w.drewN q := by
  have h3 := hb.ahead
  have ha := hb.ahd i hi
  have hn := hb.hn
  have hc := cnt_le f (64 * i)
  have hi1 : (i : Int) < ((n / 64 + 1 : Nat) : Int) := by omega
  go_enter Try.func19, Try.ntmps19
  go_wp2
  go_quiet (fail)
  go_wp2
  go_ret
  exact ⟨rfl, _, rfl⟩

set_option maxHeartbeats 1000000 in
theorem search_any (n : Nat) (p : Nat → Bool) (B C : Nat) (w : World) (hsz : n < 4611686018427387904)
    (hf : ∀ (m i : Nat), i < n → Calls Try.prog 19 #[.int .i64 (i : Int), .pointer (some ⟨B, 0, none⟩), .pointer (some ⟨C, 0, none⟩)] (w.drewN m) fun e w' => e = .returned (.bool (p i)) ∧ ∃ q, w' = (w.drewN m).drewN q)
    (hmono : ∀ a b, a ≤ b → b < n → p a = true → p b = true) :
    Calls Try.prog 18 #[.int .i64 (n : Int), .func (.func 19) #[] #[.pointer (some ⟨B, 0, none⟩), .pointer (some ⟨C, 0, none⟩)]] w fun e w' => ∃ r : Nat, e = .returned (.int .i64 (r : Int)) ∧ (∃ q, w' = w.drewN q) ∧ r ≤ n ∧ (∀ t, t < r → p t = false) ∧ (∀ t, r ≤ t → t < n → p t = true) := by
  have HF : Hid _ := hf
  have M : Hid _ := hmono
  clear hf hmono
  go_enter Try.func18, Try.ntmps18
  go_wp2
  go_loopw [5, 6] (fun s5 s6 wr => ∃ lo hi q : Nat, s5 = .int .i64 lo ∧ s6 = .int .i64 hi ∧ lo ≤ hi ∧ hi ≤ n ∧ wr = w.drewN q ∧ Hid ((∀ t, t < lo → p t = false) ∧ (∀ t, hi ≤ t → t < n → p t = true))) (fun s5 s6 _ => (intOf s6 - intOf s5).toNat)
  case atStart => exact ⟨0, n, 0, rfl, rfl, Nat.zero_le _, Nat.le_refl _, rfl, (⟨fun t ht => absurd ht (Nat.not_lt_zero _), fun t h1 h2 => by omega⟩ : (∀ t, t < 0 → p t = false) ∧ (∀ t, n ≤ t → t < n → p t = true))⟩
  case round =>
    obtain ⟨lo, hi, q, rfl, rfl, hlh, hin, rfl, I⟩ := hrel
    by_cases hlt : lo < hi
    · have ee : (((lo + hi) / 2 : Nat) : Int) = ((lo : Int) + (hi : Int)) / 2 := by omega
      cases hp : p ((lo + hi) / 2)
      · have HP : Hid (p ((lo + hi) / 2) = false) := hp
        clear hp
        have EE : Hid _ := ee
        clear ee
        go_wp2_with (go_at_call 19; have hc := HF.out q ((lo + hi) / 2) (by omega); rw [EE.out, HP.out] at hc; refine hc.mono ?_; clear hc; rintro e w' ⟨rfl, nq, rfl⟩)
        go_roundw
        case rel =>
          have I2 : Hid ((∀ t, t < (lo + hi) / 2 + 1 → p t = false) ∧ (∀ t, hi ≤ t → t < n → p t = true)) := ⟨fun t ht => (by
            cases h : p t with
            | false => rfl
            | true => have := M.out t ((lo + hi) / 2) (by omega) (by omega) h; rw [HP.out] at this; cases this), I.out.2⟩
          exact ⟨(lo + hi) / 2 + 1, hi, q + nq, by rw [show ((lo : Int) + (hi : Int)) / 2 + 1 = (((lo + hi) / 2 + 1 : Nat) : Int) by omega], rfl, by omega, hin, rfl, I2⟩
        case measure => simp [intOf]; omega
      · have HP : Hid (p ((lo + hi) / 2) = true) := hp
        clear hp
        have EE : Hid _ := ee
        clear ee
        go_wp2_with (go_at_call 19; have hc := HF.out q ((lo + hi) / 2) (by omega); rw [EE.out, HP.out] at hc; refine hc.mono ?_; clear hc; rintro e w' ⟨rfl, nq, rfl⟩)
        go_roundw
        case rel =>
          have I2 : Hid ((∀ t, t < lo → p t = false) ∧ (∀ t, (lo + hi) / 2 ≤ t → t < n → p t = true)) := ⟨I.out.1, fun t ht htn => M.out ((lo + hi) / 2) t ht htn HP.out⟩
          exact ⟨lo, (lo + hi) / 2, q + nq, rfl, by rw [show ((lo : Int) + (hi : Int)) / 2 = (((lo + hi) / 2 : Nat) : Int) by omega], by omega, by omega, rfl, I2⟩
        case measure => simp [intOf]; omega
    · obtain rfl : hi = lo := by omega
      go_wp2
      go_ret
      exact ⟨hi, rfl, ⟨q, rfl⟩, hin, I.out.1, I.out.2⟩

theorem cnt_find (g : Nat → Bool) (k : Nat) : ∀ m, k < cnt g m → ∃ p, p < m ∧ g p = true ∧ cnt g p = k := by
  intro m
  induction m with
  | zero => intro h; simp [cnt] at h
  | succ m ih =>
    intro h
    by_cases e : k < cnt g m
    · obtain ⟨p, a, b, c⟩ := ih e
      exact ⟨p, by omega, b, c⟩
    · rw [cnt_succ] at h
      cases hg : g m with
      | false => rw [hg] at h; simp at h; omega
      | true => rw [hg] at h; simp at h; exact ⟨m, by omega, hg, by omega⟩
theorem cnt_uniq (g : Nat → Bool) {p q : Nat} (hp : g p = true) (hq : g q = true) (h : cnt g p = cnt g q) : p = q := by
  have key : ∀ a b, a < b → g a = true → cnt g a < cnt g b := fun a b hab ha => by
    have h1 := cnt_mono g (show a + 1 ≤ b by omega)
    rw [cnt_succ, ha] at h1
    simp at h1; omega
  rcases Nat.lt_trichotomy p q with a | a | a
  · have := key p q a hp; omega
  · exact a
  · have := key q p a hq; omega
theorem sel_at (X p : Nat) (hX : X < 18446744073709551616) (hp : p < 64) (ht : X.testBit p = true) (y : Int) (hy : y = (cnt X.testBit p : Int)) (w : World) :
    Calls Try.prog 20 #[.int .u64 (X : Int), .int .i64 y] w fun e w' => e = .returned (.int .i64 (p : Int)) ∧ w' = w := by
  subst hy
  refine (sel_any X (cnt X.testBit p) hX ?_ w).mono ?_
  · have := cnt_mono X.testBit (show p + 1 ≤ 64 by omega)
    rw [cnt_succ, ht] at this
    simp at this
    unfold pop; omega
  · rintro e w' ⟨s, rfl, rfl, _, h2, h3⟩
    obtain rfl : s = p := cnt_uniq _ h2 ht h3
    exact ⟨rfl, rfl⟩
theorem word_of {w : World} {b bw ba n : Nat} {f : Nat → Bool} {W : Nat → Nat} (hb : BitsAt w b bw ba f n W) (j : Nat) : cnt f (64 * j + 64) = cnt f (64 * j) + pop (W j) := by
  rw [cnt_add]; congr 1
  exact cnt_congr fun t ht => (hb.wbit j t ht).symm
theorem search_sel {w : World} {b bw ba n : Nat} {f : Nat → Bool} {W : Nat → Nat} (hb : BitsAt w b bw ba f n W) (B C k : Nat) (hB : w.cell? ⟨B, 0, none⟩ = some (.pointer (some ⟨b, 0, none⟩))) (hC : w.cell? ⟨C, 0, none⟩ = some (.int .i64 (k : Int))) (hk : k < cnt f n) (L : Int) (hL : L = ((n / 64 + 1 : Nat) : Int)) :
    Calls Try.prog 18 #[.int .i64 L, .func (.func 19) #[] #[.pointer (some ⟨B, 0, none⟩), .pointer (some ⟨C, 0, none⟩)]] w fun e w' => ∃ j : Nat, e = .returned (.int .i64 ((j : Int) + 1)) ∧ (∃ q, w' = w.drewN q) ∧ j < n / 64 + 1 ∧ cnt f (64 * j) ≤ k ∧ k < cnt f (64 * j) + pop (W j) := by
  subst hL
  have hn := hb.hn
  refine (search_any (n / 64 + 1) (fun i => decide ((k : Int) < (cnt f (64 * i) : Int))) B C w (by omega) (fun m i hi => clos_any (hb.drewN m) B C k hB hC i hi) ?_).mono ?_
  · intro x y hxy _ hx
    have := cnt_mono f (show 64 * x ≤ 64 * y by omega)
    simp only [decide_eq_true_eq] at hx ⊢
    omega
  · rintro e w' ⟨r, rfl, hq, hr, h1, h2⟩
    have hr0 : r ≠ 0 := by
      intro h0
      have h7 : (k : Int) < (cnt f (64 * 0) : Int) := of_decide_eq_true (h2 0 (by omega) (by omega))
      rw [show cnt f (64 * 0) = 0 from rfl] at h7
      omega
    have h3 := h1 (r - 1) (by omega)
    simp only [decide_eq_false_iff_not] at h3
    refine ⟨r - 1, ?_, hq, by omega, by omega, ?_⟩
    · rw [show ((r - 1 : Nat) : Int) + 1 = (r : Int) by omega]
    · rw [← word_of hb]
      by_cases e : r < n / 64 + 1
      · have := h2 r (Nat.le_refl _) e
        simp only [decide_eq_true_eq] at this
        rw [show 64 * (r - 1) + 64 = 64 * r by omega]; omega
      · have := cnt_mono f (show n ≤ 64 * (r - 1) + 64 by omega)
        omega

theorem two_cells (w : World) (x y : Value) (s t : TypeId) : ((w.alloc (.cells #[x] s)).alloc (.cells #[y] t)).cell? ⟨w.heap.size, 0, none⟩ = some x ∧ ((w.alloc (.cells #[x] s)).alloc (.cells #[y] t)).cell? ⟨w.heap.size + 1, 0, none⟩ = some y := by
  constructor
  · simp
  · simp
theorem two_below (w : World) (x y : Obj) : Below w.heap.size w ((w.alloc x).alloc y) := ((Below.refl _ _).alloc (Nat.le_refl _) _).alloc (by simp) _

set_option maxHeartbeats 400000 in
theorem select_no {w : World} {b bw ba n : Nat} {f : Nat → Bool} {W : Nat → Nat} (hb : BitsAt w b bw ba f n W) (k : Int) (h : k < 0 ∨ (cnt f n : Int) ≤ k) :
    Calls Try.prog 7 #[.pointer (some ⟨b, 0, none⟩), .int .i64 k] w fun e w' => e = .returned (.tuple #[.int .i64 0, .int .i64 1]) ∧ Below w.heap.size w w' := by
  have hlt := World.block_lt_of_cell? _ _ hb.ones
  have h0 := hb.ones
  have hB := two_below w (.cells #[.pointer (some ⟨b, 0, none⟩)] 23) (.cells #[.int .i64 k] 3)
  rcases h with h | h
  · go_enter Try.func7, Try.ntmps7
    go_wp2
    go_quiet (fail)
    go_wp2
    go_ret2
    exact ⟨rfl, below_drewN hB _⟩
  · have hd : ¬ k < 0 := by omega
    go_enter Try.func7, Try.ntmps7
    go_wp2
    go_quiet (fail)
    go_wp2
    go_ret2
    exact ⟨rfl, below_drewN hB _⟩
set_option maxHeartbeats 400000 in
theorem select_yes {w : World} {b bw ba n : Nat} {f : Nat → Bool} {W : Nat → Nat} (hb : BitsAt w b bw ba f n W) (k : Nat) (h : k < cnt f n) :
    Calls Try.prog 7 #[.pointer (some ⟨b, 0, none⟩), .int .i64 (k : Int)] w fun e w' => ∃ s : Nat, e = .returned (.tuple #[.int .i64 (s : Int), .int .i64 0]) ∧ s < n ∧ f s = true ∧ cnt f s = k ∧ Below w.heap.size w w' := by
  have hlt := World.block_lt_of_cell? _ _ hb.ones
  have h0 := hb.ones
  have h3 := hb.ahead
  have hB := two_below w (.cells #[.pointer (some ⟨b, 0, none⟩)] 23) (.cells #[.int .i64 (k : Int)] 3)
  have hb1 := hb.below hB
  have hc := two_cells w (.pointer (some ⟨b, 0, none⟩)) (.int .i64 (k : Int)) 23 3
  have hd : ¬ (k : Int) < 0 := by omega
  have hn := hb.hn
  go_enter Try.func7, Try.ntmps7
  go_wp2
  go_quiet (fail)
  go_wp2_with (go_at_call 18; refine (search_sel (hb1.drewN _) _ _ k hc.1 hc.2 h _ (by omega)).mono ?_; rintro e w' ⟨j, rfl, ⟨q, rfl⟩, hj, h4, h5⟩)
  obtain ⟨p, hp, ht, hcp⟩ := cnt_find (W j).testBit (k - cnt f (64 * j)) 64 (by unfold pop at h5; omega)
  have h6 := hb1.words
  have h7 := hb1.ahead
  have hw := hb1.word j hj
  have ha := hb1.ahd j hj
  have hl := hb.wlt j
  have hj1 : (j : Int) < ((n / 64 + 1 : Nat) : Int) := by omega
  have hj2 : (j : Int) < (n : Int) / 64 + 1 := by omega
  have hj0 : (0 : Int) ≤ (j : Int) := by omega
  have hm : IntKind.i64.wrap ((j : Int) * 64) = (j : Int) * 64 := by rw [IntKind.wrap_i64]; omega
  have hcl := cnt_le f (64 * j)
  have hk2 : (k : Int) ≤ 100000 := by have := cnt_le f n; omega
  clear hlt h0 h3 hB hb1 hd h
  have HT : Hid _ := ht
  have HC : Hid _ := hcp
  clear ht hcp hc
  go_quiet ((go_at_call 20; refine (sel_at _ p hl hp HT.out ((k : Int) - (cnt f (64 * j) : Int)) (by rw [HC.out]; omega) _).mono ?_; rintro e w'' ⟨rfl, rfl⟩; exact ⟨rfl, _, rfl⟩))
  go_wp2
  go_ret2
  have hf : f (64 * j + p) = true := by rw [← hb.wbit j p hp]; exact HT.out
  have hcc : cnt f (64 * j + p) = k := by
    rw [cnt_add, cnt_congr (g := (W j).testBit) (fun t ht => (hb.wbit j t (by omega)).symm), HC.out]; omega
  refine ⟨64 * j + p, ret2_int (by omega), ?_, hf, hcc, below_drewN (below_drewN (two_below w _ _) _) _⟩
  by_cases e : 64 * j + p < n
  · exact e
  · have := hb.out (64 * j + p) (by omega)
    rw [hf] at this
    cases this
end Go.Proofs.Ytmmnocoiminnlaa
