/-
  succ.bitsOfWords and succ.NewBits: from a text of at most 100000 letters 0 and 1 NewBits makes its vector of bits in new memory and answers OK; from any other text it answers nil and ErrInput; nothing that was there is written. No condition but that a string is no longer than Go allows.
-/
import Derived.Test.YtphjbbbnbmafnaaFind
namespace Go.Proofs.Ytphjbbbnbmafnaa
open Go.RowKit

theorem Try.info88 : (Try.prog.info? 88).map (fun i => (i.zero, i.size, i.bytes)) = some (some (.int .u64 0), 1, 8) := by kernel_rfl
theorem Try.info73 : (Try.prog.info? 73).map (fun i => (i.zero, i.size, i.bytes)) = some (some (.int .u32 0), 1, 4) := by kernel_rfl

/-- the row of counts, so far: the first k are told -/
def Told (f : Nat → Bool) (L k : Nat) (xs : List Value) : Prop := xs.length = L ∧ ∀ j, j < k → xs[j]? = some (.int .u32 (cnt f (64 * j) : Int))
theorem told_step {f : Nat → Bool} {L k : Nat} {xs : List Value} (h : Told f L k xs) (hk : k < L) : Told f L (k + 1) (xs.set k (.int .u32 (cnt f (64 * k) : Int))) := by
  obtain ⟨h1, h2⟩ := h
  refine ⟨by simpa using h1, fun j hj => ?_⟩
  by_cases e : j = k
  · subst e; simp [h1, hk]
  · rw [List.getElem?_set_ne (by omega)]; exact h2 j (by omega)
theorem told_at {f : Nat → Bool} {L k j : Nat} {xs : List Value} (h : Told f L k xs) (hj : j < L) : ∃ v, xs[j]? = some v := ⟨xs[j]'(by rw [h.1]; exact hj), by simp [h.1, hj]⟩

theorem word_step {f : Nat → Bool} {W : Nat → Nat} (hwbit : ∀ j i, i < 64 → (W j).testBit i = f (64 * j + i)) (k : Nat) : ((cnt f (64 * (k + 1)) : Nat) : Int) = (cnt f (64 * k) : Int) + (pop (W k) : Int) := by
  rw [show 64 * (k + 1) = 64 * k + 64 from by omega, cnt_add, cnt_congr (g := (W k).testBit) (fun t ht => (hwbit k t ht).symm)]
  simp [pop]
theorem bits_made {w wr : World} {g n : Nat} {f : Nat → Bool} {W : Nat → Nat} (hn : n ≤ 100000) (hbel : Below w.heap.size w wr) (hcell : ∀ j, j < n / 64 + 1 → w.cell? ⟨g, j, none⟩ = some (.int .u64 (W j : Int)))
    (hcnt : ∀ j, j < n / 64 + 1 → wr.cell? ⟨w.heap.size, j, none⟩ = some (.int .u32 (cnt f (64 * j) : Int)))
    (hwlt : ∀ j, W j < 18446744073709551616) (hwbit : ∀ j i, i < 64 → (W j).testBit i = f (64 * j + i)) (hout : ∀ i, n ≤ i → f i = false) :
    BitsAt (wr.alloc (.cells #[.int .i64 (n : Int), .int .i64 (cnt f (64 * (n / 64 + 1)) : Int), .slice (some ⟨g, 0, none⟩) (n / 64 + 1) (n / 64 + 1), .slice (some ⟨w.heap.size, 0, none⟩) (n / 64 + 1) (n / 64 + 1)] 85)) wr.heap.size g w.heap.size f n W := by
  have hnew : ∀ o, Below wr.heap.size wr (wr.alloc o) := fun o => (Below.refl _ _).alloc (Nat.le_refl _) o
  have e : cnt f (64 * (n / 64 + 1)) = cnt f n := by
    rw [show 64 * (n / 64 + 1) = n + (64 * (n / 64 + 1) - n) from by omega, cnt_add, cnt_false (n := 64 * (n / 64 + 1) - n) (fun i _ => hout _ (by omega))]; omega
  refine ⟨hn, by simp, ?_, by simp, by simp, fun j hj => cell_kept (hnew _) _ _ (cell_kept hbel _ _ (hcell j hj)), fun j hj => cell_kept (hnew _) _ _ (hcnt j hj), hwlt, hwbit, hout⟩
  rw [← e]; simp

set_option maxHeartbeats 1000000 in
theorem bow_any {w : World} (g n : Nat) (f : Nat → Bool) (W : Nat → Nat) (hn : n ≤ 100000) (hcell : ∀ j, j < n / 64 + 1 → w.cell? ⟨g, j, none⟩ = some (.int .u64 (W j : Int)))
    (hwlt : ∀ j, W j < 18446744073709551616) (hwbit : ∀ j i, i < 64 → (W j).testBit i = f (64 * j + i)) (hout : ∀ i, n ≤ i → f i = false) :
    Calls Try.prog 45 #[.slice (some ⟨g, 0, none⟩) (n / 64 + 1) (n / 64 + 1), .int .i64 (n : Int)] w fun e w' => ∃ b ba, e = .returned (.pointer (some ⟨b, 0, none⟩)) ∧ BitsAt w' b g ba f n W ∧ Below w.heap.size w w' := by
  obtain ⟨i0, hi, hz0, hz1, hz2⟩ := info_parts Try.info73
  have HW : Hid _ := hwlt
  have HB : Hid _ := hwbit
  have HO : Hid _ := hout
  have HC : Hid _ := hcell
  clear hwlt hwbit hout hcell
  go_enter Try.func45, Try.ntmps45
  go_wp2_with (at_make; refine wpList_make_full _ rfl _ _ 83 rfl w.heap.size 73 i0 (.int .u32 0) 1 Try.underlying83 hi hz0 hz1 _ _ _ _ (n / 64 + 1) rfl rfl (by omega) (by omega) (by rw [hz2]; omega) (by unfold maxLen; omega) (Nat.le_refl _) ?_; intro w1 hown hgrow)
  have hstart : Told f (n / 64 + 1) 0 (madeCells (Value.int IntKind.u32 0).cells ((n / 64 + 1) * 1)).toList := ⟨by simp [size_madeCells], fun j hj => absurd hj (Nat.not_lt_zero _)⟩
  have hb1 : Below w.heap.size w w1 := (Below.refl _ _).grown hgrow (Nat.le_refl _) (fun k hk => by cases hk)
  generalize (madeCells (Value.int IntKind.u32 0).cells ((n / 64 + 1) * 1)).toList = xs0 at hown hstart
  clear hgrow
  go_loopw [6, 14] (fun s c wr => ∃ (k : Nat) (xs : List Value), k ≤ n / 64 + 1 ∧ c = .int .i64 k ∧ s = .int .i64 (cnt f (64 * k) : Int) ∧ wr.ownsRow w.heap.size 73 1 (.slice (some ⟨w.heap.size, 0, none⟩) (n / 64 + 1) (n / 64 + 1)) (n / 64 + 1) xs ∧ Told f (n / 64 + 1) k xs ∧ Below w.heap.size w wr) (fun _ c _ => n / 64 + 1 - (intOf c).toNat)
  case atStart => exact ⟨0, xs0, Nat.zero_le _, rfl, rfl, hown, hstart, hb1⟩
  case round =>
    clear hown hstart hb1
    obtain ⟨k, xs, hk, rfl, rfl, hown, htold, hbel⟩ := hrel
    have hcl := cnt_le f (64 * k)
    by_cases hlt : k < n / 64 + 1
    · have hw := cell_kept hbel _ _ (HC.out k hlt)
      obtain ⟨v, hv⟩ := told_at htold hlt
      have hold := (hown.cellAt k (by omega)).trans hv
      have hfr := hown.frozenAt k
      have hl := HW.out k
      have hpl := pop_le (W k)
      have hk1 : (k : Int) < ((n / 64 + 1 : Nat) : Int) := by omega
      have hk2 : (k : Int) < (n : Int) / 64 + 1 := by omega
      have hstored := hown.stored k (.int .u32 (cnt f (64 * k) : Int))
      have hb2 := hbel.setCell (p := ⟨w.heap.size, k, none⟩) (Nat.le_refl _) (.int .u32 (cnt f (64 * k) : Int))
      have ht2 := told_step htold hlt
      have HS : Hid _ := hstored
      have HB2 : Hid _ := hb2
      have HT2 : Hid _ := ht2
      clear hstored hb2 ht2 htold hown hbel hv
      go_wp2_with (go_at_call 78; refine (ones_any _ hl _).mono ?_; rintro e w' ⟨rfl, rfl⟩)
      go_roundw
      case rel => exact ⟨k + 1, _, by omega, by go_num, by rw [word_step HB.out k], HS.out.1, HT2.out, HB2.out⟩
      case measure => simp [intOf]; omega
    · obtain rfl : k = n / 64 + 1 := by omega
      go_wp2
      go_ret
      exact ⟨wr.heap.size, w.heap.size, rfl, bits_made hn hbel HC.out (fun j hj => (hown.cellAt j (by omega)).trans (htold.2 j hj)) HW.out HB.out HO.out, hbel.alloc hbel.size _⟩

/-! ### NewBits -/
def bitOf (s : ByteArray) (i : Nat) : Bool := s.data.toList[i]? == some 49
def okTo (s : ByteArray) (k : Nat) : Prop := ∀ i, i < k → s.data.toList[i]? = some 48 ∨ s.data.toList[i]? = some 49
def okB (s : ByteArray) : Bool := decide (s.size ≤ 100000) && s.data.toList.all (fun c => c == 48 || c == 49)

theorem at_k (s : ByteArray) (k : Nat) (h : k < s.size) : s.data.toList[k]? = some s[k] := by
  rw [Array.getElem?_toList, Array.getElem?_eq_getElem h]; rfl
theorem byte_is (c d : UInt8) (h : ((c.toNat : Int) == (d.toNat : Int)) = true) : c = d := by
  have h1 : (c.toNat : Int) = (d.toNat : Int) := eq_of_beq h
  exact UInt8.toNat_inj.1 (by omega)
theorem byte_not (c d : UInt8) (h : ((c.toNat : Int) == (d.toNat : Int)) = false) : c ≠ d := by
  intro e; subst e; simp at h
theorem okTo_succ {s : ByteArray} {k : Nat} (h : okTo s k) (hk : s.data.toList[k]? = some 48 ∨ s.data.toList[k]? = some 49) : okTo s (k + 1) := fun i hi => by
  by_cases e : i = k
  · subst e; exact hk
  · exact h i (by omega)
theorem okB_of {s : ByteArray} (hs : s.size ≤ 100000) (h : okTo s s.size) : okB s = true := by
  unfold okB
  rw [Bool.and_eq_true]
  refine ⟨by simpa using hs, ?_⟩
  rw [List.all_eq_true]
  intro c hc
  obtain ⟨i, hi, rfl⟩ := List.getElem_of_mem hc
  have := h i (by simpa using hi)
  rw [List.getElem?_eq_getElem hi] at this
  simpa using this
theorem not_okB {s : ByteArray} {k : Nat} (h : k < s.size) (h0 : s[k] ≠ 48) (h1 : s[k] ≠ 49) : okB s = false := by
  unfold okB
  rw [Bool.and_eq_false_iff]
  right
  rw [List.all_eq_false]
  refine ⟨s[k], ?_, by simp [h0, h1]⟩
  exact List.mem_of_getElem? (at_k s k h)
theorem not_okB_long {s : ByteArray} (h : 100000 < s.size) : okB s = false := by
  unfold okB
  rw [Bool.and_eq_false_iff]
  left
  simpa using h

def wordOf (f : Nat → Bool) (j : Nat) : Nat → Nat
  | 0 => 0
  | m + 1 => 2 ^ m * (f (64 * j + m)).toNat + wordOf f j m
theorem wordOf_lt (f : Nat → Bool) (j m : Nat) : wordOf f j m < 2 ^ m := by
  induction m with
  | zero => simp [wordOf]
  | succ m ih =>
    have := Bool.toNat_le (f (64 * j + m))
    have h2 : 2 ^ m * (f (64 * j + m)).toNat ≤ 2 ^ m * 1 := Nat.mul_le_mul_left _ this
    rw [Nat.pow_succ]; unfold wordOf; omega
theorem wordOf_bit (f : Nat → Bool) (j m i : Nat) : (wordOf f j m).testBit i = (decide (i < m) && f (64 * j + i)) := by
  induction m with
  | zero => simp [wordOf]
  | succ m ih =>
    unfold wordOf
    rw [Nat.testBit_two_pow_mul_add _ (wordOf_lt f j m)]
    by_cases e : i < m
    · rw [if_pos e, ih]; simp [e, Nat.lt_succ_of_lt e]
    · rw [if_neg e]
      by_cases e2 : i = m
      · subst e2
        cases f (64 * j + i) <;> simp
      · have : ¬ i < m + 1 := by omega
        have h1 : Nat.testBit 1 (i - m) = false := by rw [show 1 = 2 ^ 0 from rfl, Nat.testBit_two_pow]; simp; omega
        cases f (64 * j + m) <;> simp [this, h1]
theorem wordOf_64 (f : Nat → Bool) (j : Nat) : wordOf f j 64 < 18446744073709551616 := wordOf_lt f j 64

/-- the words of the first k bits -/
def upto (f : Nat → Bool) (k i : Nat) : Bool := f i && decide (i < k)
def Words (f : Nat → Bool) (L k : Nat) (xs : List Value) : Prop := xs.length = L ∧ ∀ j, j < L → xs[j]? = some (.int .u64 (wordOf (upto f k) j 64 : Int))
theorem wordOf_congr {f g : Nat → Bool} {j : Nat} (h : ∀ i, i < 64 → f (64 * j + i) = g (64 * j + i)) : wordOf f j 64 = wordOf g j 64 :=
  Nat.eq_of_testBit_eq fun i => by
    rw [wordOf_bit, wordOf_bit]
    by_cases e : i < 64
    · rw [h i e]
    · simp [e]
theorem words_start (f : Nat → Bool) (L : Nat) : Words f L 0 (madeCells (Value.int IntKind.u64 0).cells (L * 1)).toList := by
  refine ⟨by simp [size_madeCells], fun j hj => ?_⟩
  have e : wordOf (upto f 0) j 64 = 0 := Nat.eq_of_testBit_eq fun i => by rw [wordOf_bit]; simp [upto]
  rw [e]
  show (madeCells #[Value.int IntKind.u64 0] (L * 1)).toList[j]? = _
  rw [toList_madeCells_one]
  simp [hj]
theorem words_keep {f : Nat → Bool} {L k : Nat} {xs : List Value} (h : Words f L k xs) (hf : f k = false) : Words f L (k + 1) xs := by
  refine ⟨h.1, fun j hj => ?_⟩
  rw [h.2 j hj, wordOf_congr]
  intro i _
  unfold upto
  by_cases e : 64 * j + i = k
  · rw [e, hf]; rfl
  · have : (64 * j + i < k) = (64 * j + i < k + 1) := propext (by omega)
    simp only [this]
theorem word_key {f : Nat → Bool} {k : Nat} (hf : f k = true) : (wordOf (upto f k) (k / 64) 64 ||| 2 ^ (k % 64)) = wordOf (upto f (k + 1)) (k / 64) 64 := by
  refine Nat.eq_of_testBit_eq fun i => ?_
  rw [Nat.testBit_or, wordOf_bit, wordOf_bit, Nat.testBit_two_pow]
  unfold upto
  by_cases e2 : i < 64
  · by_cases e3 : k % 64 = i
    · have : 64 * (k / 64) + i = k := by omega
      simp [e2, this, hf, e3]
    · have h2 : (64 * (k / 64) + i < k) = (64 * (k / 64) + i < k + 1) := propext (by omega)
      simp [e2, e3, h2]
  · have : k % 64 ≠ i := by omega
    simp [e2, this]
theorem words_set {f : Nat → Bool} {L k : Nat} {xs : List Value} (h : Words f L k xs) (hf : f k = true) (u : Int) (hu : u = ((wordOf (upto f k) (k / 64) 64 ||| 2 ^ (k % 64) : Nat) : Int)) : Words f L (k + 1) (xs.set (k / 64) (.int .u64 u)) := by
  refine ⟨by simpa using h.1, fun j hj => ?_⟩
  by_cases e : j = k / 64
  · subst e
    rw [List.getElem?_set_self (by rw [h.1]; exact hj), hu, word_key hf]
  · rw [List.getElem?_set_ne (by omega), h.2 j hj, wordOf_congr]
    intro i hi
    unfold upto
    have h2 : (64 * j + i < k) = (64 * j + i < k + 1) := propext (by omega)
    simp only [h2]
theorem or_int (x k : Nat) (hx : x < 18446744073709551616) (hk : k < 64) : bits .or .u64 (x : Int) (IntKind.u64.wrap ((2 : Int) ^ k)) = ((x ||| 2 ^ k : Nat) : Int) := by
  have h1 : 2 ^ k ≤ 2 ^ 63 := Nat.pow_le_pow_right (by decide) (by omega)
  have e : IntKind.u64.wrap ((2 : Int) ^ k) = ((2 ^ k : Nat) : Int) := by
    rw [← two_pow_int, IntKind.wrap_u64]; generalize 2 ^ k = m at *; omega
  rw [e, u64_or_nat _ _ hx (by omega)]
end Go.Proofs.Ytphjbbbnbmafnaa
