/-
  The sum of a page, without the program: how a byte and how a bit go into it; that it is linear; that bits which are others, all within 32 that lie one behind the other (of a page and its sum), change it. No condition.
-/
namespace Go.Proofs.Ytphjbbbnbmafnaa.Crc

def poly : Nat := 79764919
/-- one round: double, and if a one fell out, XOR -/
def shift (c : Nat) : Nat := (2 * c % 4294967296) ^^^ (if c.testBit 31 then poly else 0)
/-- a bit goes in -/
def step (c : Nat) (b : Bool) : Nat := (2 * c % 4294967296) ^^^ (if (c.testBit 31) != b then poly else 0)
/-- so many rounds -/
def shifts : Nat → Nat → Nat
  | 0, c => c
  | k + 1, c => shifts k (shift c)
/-- a byte goes in -/
def feed (c b : Nat) : Nat := shifts 8 (c ^^^ (b * 16777216))
def run (c : Nat) (l : List Bool) : Nat := l.foldl step c
def crc (c : Nat) (l : List Nat) : Nat := l.foldl feed c
/-- a number's four bytes, the highest first -/
def be4 (n : Nat) : List Nat := [n / 16777216 % 256, n / 65536 % 256, n / 256 % 256, n % 256]
/-- the sum of the page with this number -/
def sumOf (number : Nat) (page : List Nat) : Nat := crc 4294967295 (be4 number ++ page) ^^^ 4294967295

theorem shift_lt (c : Nat) : shift c < 4294967296 := by
  unfold shift
  have h1 : 2 * c % 4294967296 < 2 ^ 32 := Nat.mod_lt _ (by decide)
  have h2 : (if c.testBit 31 then poly else 0) < 2 ^ 32 := by split <;> decide
  exact Nat.xor_lt_two_pow h1 h2
theorem step_lt (c : Nat) (b : Bool) : step c b < 4294967296 := by
  unfold step
  have h1 : 2 * c % 4294967296 < 2 ^ 32 := Nat.mod_lt _ (by decide)
  have h2 : (if (c.testBit 31) != b then poly else 0) < 2 ^ 32 := by split <;> decide
  exact Nat.xor_lt_two_pow h1 h2
theorem step_false (c : Nat) : step c false = shift c := by unfold step shift; simp
theorem double_bit (c i : Nat) : (2 * c % 4294967296).testBit i = (decide (i < 32) && decide (0 < i) && c.testBit (i - 1)) := by
  rw [show (4294967296 : Nat) = 2 ^ 32 from rfl, Nat.testBit_mod_two_pow, show 2 * c = 2 ^ 1 * c from rfl, Nat.testBit_two_pow_mul]
  cases i with
  | zero => simp
  | succ i => simp
theorem double_xor (c d : Nat) : 2 * (c ^^^ d) % 4294967296 = (2 * c % 4294967296) ^^^ (2 * d % 4294967296) := by
  apply Nat.eq_of_testBit_eq
  intro i
  rw [Nat.testBit_xor, double_bit, double_bit, double_bit, Nat.testBit_xor]
  cases decide (i < 32) <;> cases decide (0 < i) <;> simp
theorem if_xor (a b : Bool) : (if (a ^^ b) then poly else 0) = (if a then poly else 0) ^^^ (if b then poly else 0) := by
  cases a <;> cases b <;> simp
theorem xor4 (a b c d : Nat) : (a ^^^ b) ^^^ (c ^^^ d) = (a ^^^ c) ^^^ (b ^^^ d) := by
  rw [Nat.xor_assoc, Nat.xor_assoc]; congr 1; rw [← Nat.xor_assoc, ← Nat.xor_assoc, Nat.xor_comm b c]
theorem step_xor (c d : Nat) (a b : Bool) : step (c ^^^ d) (a ^^ b) = step c a ^^^ step d b := by
  unfold step
  have e : (((c ^^^ d).testBit 31) != (a ^^ b)) = ((c.testBit 31 != a) ^^ (d.testBit 31 != b)) := by
    rw [Nat.testBit_xor]
    cases c.testBit 31 <;> cases d.testBit 31 <;> cases a <;> cases b <;> rfl
  rw [e, if_xor, double_xor, xor4]
theorem shift_xor (c d : Nat) : shift (c ^^^ d) = shift c ^^^ shift d := by
  have := step_xor c d false false
  simpa [step_false] using this
theorem shifts_xor (k c d : Nat) : shifts k (c ^^^ d) = shifts k c ^^^ shifts k d := by
  induction k generalizing c d with
  | zero => rfl
  | succ k ih => unfold shifts; rw [shift_xor, ih]
theorem mul_xor (a b : Nat) : (a ^^^ b) * 16777216 = (a * 16777216) ^^^ (b * 16777216) := by
  apply Nat.eq_of_testBit_eq
  intro i
  rw [Nat.testBit_xor, show (16777216 : Nat) = 2 ^ 24 from rfl, Nat.mul_comm _ (2 ^ 24), Nat.mul_comm _ (2 ^ 24), Nat.mul_comm _ (2 ^ 24), Nat.testBit_two_pow_mul, Nat.testBit_two_pow_mul, Nat.testBit_two_pow_mul, Nat.testBit_xor]
  cases decide (i ≥ 24) <;> simp
theorem feed_xor (c d a b : Nat) : feed (c ^^^ d) (a ^^^ b) = feed c a ^^^ feed d b := by
  unfold feed
  rw [mul_xor, xor4, shifts_xor]
theorem crc_xor : ∀ (l m : List Nat) (c d : Nat), l.length = m.length → crc (c ^^^ d) (List.zipWith (· ^^^ ·) l m) = crc c l ^^^ crc d m
  | [], [], _, _, _ => rfl
  | a :: l, b :: m, c, d, h => by
    unfold crc
    rw [List.zipWith_cons_cons, List.foldl_cons, List.foldl_cons, List.foldl_cons, feed_xor]
    exact crc_xor l m _ _ (by simpa using h)

/-! ### bytes and bits -/
/-- a byte's bits, the highest first -/
def bits8 (b : Nat) : List Bool := [b.testBit 7, b.testBit 6, b.testBit 5, b.testBit 4, b.testBit 3, b.testBit 2, b.testBit 1, b.testBit 0]
theorem run_append (c : Nat) (l m : List Bool) : run c (l ++ m) = run (run c l) m := by unfold run; rw [List.foldl_append]
theorem crc_append (c : Nat) (l m : List Nat) : crc c (l ++ m) = crc (crc c l) m := by unfold crc; rw [List.foldl_append]
theorem run_xor : ∀ (l m : List Bool) (c d : Nat), l.length = m.length → run (c ^^^ d) (List.zipWith (· ^^ ·) l m) = run c l ^^^ run d m
  | [], [], _, _, _ => rfl
  | a :: l, b :: m, c, d, h => by
    unfold run
    rw [List.zipWith_cons_cons, List.foldl_cons, List.foldl_cons, List.foldl_cons, step_xor]
    exact run_xor l m _ _ (by simpa using h)
theorem run_zeros (k c : Nat) : run c (List.replicate k false) = shifts k c := by
  induction k generalizing c with
  | zero => rfl
  | succ k ih =>
    rw [List.replicate_succ]
    unfold run
    rw [List.foldl_cons, step_false]
    exact ih (shift c)
theorem feed_zero : ∀ b : Fin 256, feed 0 b.val = run 0 (bits8 b.val) := by decide +kernel
theorem feed_run (c b : Nat) (hb : b < 256) : feed c b = run c (bits8 b) := by
  have h1 : feed c b = feed c 0 ^^^ feed 0 b := by
    have := feed_xor c 0 0 b
    simpa using this
  have h2 : run c (bits8 b) = run c (List.replicate 8 false) ^^^ run 0 (bits8 b) := by
    have := run_xor (List.replicate 8 false) (bits8 b) c 0 rfl
    rw [← this, Nat.xor_zero]
    congr 1
    simp [bits8, List.replicate]
  rw [h1, h2, feed_zero ⟨b, hb⟩, run_zeros]
  unfold feed
  simp
theorem crc_run : ∀ (l : List Nat) (c : Nat), (∀ b ∈ l, b < 256) → crc c l = run c (l.flatMap bits8)
  | [], _, _ => rfl
  | b :: l, c, h => by
    rw [List.flatMap_cons, run_append, ← feed_run c b (h b (List.mem_cons_self ..))]
    unfold crc
    rw [List.foldl_cons]
    exact crc_run l _ (fun x hx => h x (List.mem_cons_of_mem _ hx))

/-! ### its own bytes -/
theorem shifts_low : ∀ k c, c * 2 ^ k < 4294967296 → shifts k c = c * 2 ^ k
  | 0, c, _ => by simp [shifts]
  | k + 1, c, h => by
    have h2 : c * 2 * 2 ^ k < 4294967296 := by rw [Nat.mul_assoc, Nat.mul_comm 2, ← Nat.pow_succ]; exact h
    have hp : 1 ≤ 2 ^ k := Nat.one_le_two_pow
    have hc : c * 2 < 4294967296 := Nat.lt_of_le_of_lt (Nat.le_mul_of_pos_right _ hp) h2
    have hb : c.testBit 31 = false := Nat.testBit_lt_two_pow (by omega)
    unfold shifts
    have e : shift c = c * 2 := by
      unfold shift
      rw [hb]
      simp
      omega
    rw [e, shifts_low k (c * 2) h2, Nat.mul_assoc, Nat.mul_comm 2, ← Nat.pow_succ]
theorem top_xor (a r : Nat) (hr : r < 16777216) : (a * 16777216 + r) ^^^ (a * 16777216) = r := by
  have e : a * 16777216 + r = (a * 16777216) ^^^ r := by
    apply Nat.eq_of_testBit_eq
    intro i
    rw [Nat.testBit_xor, show (16777216 : Nat) = 2 ^ 24 from rfl, Nat.mul_comm a, Nat.testBit_two_pow_mul_add _ (by simpa using hr), Nat.testBit_two_pow_mul]
    by_cases h : i < 24
    · have : ¬ 24 ≤ i := by omega
      simp [h, this]
    · have h2 : 24 ≤ i := by omega
      have h3 : r.testBit i = false := Nat.testBit_lt_two_pow (Nat.lt_of_lt_of_le hr (show 2 ^ 24 ≤ 2 ^ i from Nat.pow_le_pow_right (by decide) h2))
      simp [h, h2, h3]
  rw [e, Nat.xor_comm, ← Nat.xor_assoc, Nat.xor_self, Nat.zero_xor]
theorem feed_own (a r : Nat) (hr : r < 16777216) : feed (a * 16777216 + r) a = r * 256 := by
  unfold feed
  rw [top_xor a r hr, shifts_low 8 r (by omega)]
theorem crc_own (c : Nat) (hc : c < 4294967296) : crc c (be4 c) = 0 := by
  have e0 : c = (c / 16777216 % 256) * 16777216 + c % 16777216 := by omega
  unfold crc be4
  rw [List.foldl_cons, List.foldl_cons, List.foldl_cons, List.foldl_cons, List.foldl_nil]
  have f1 : feed c (c / 16777216 % 256) = c % 16777216 * 256 := by
    conv => lhs; arg 1; rw [e0]
    exact feed_own _ _ (by omega)
  have f2 : feed (c % 16777216 * 256) (c / 65536 % 256) = c % 65536 * 65536 := by
    have e1 : c % 16777216 * 256 = (c / 65536 % 256) * 16777216 + c % 65536 * 256 := by omega
    rw [e1, feed_own _ _ (by omega), Nat.mul_assoc]
  have f3 : feed (c % 65536 * 65536) (c / 256 % 256) = c % 256 * 16777216 := by
    have e1 : c % 65536 * 65536 = (c / 256 % 256) * 16777216 + c % 256 * 65536 := by omega
    rw [e1, feed_own _ _ (by omega), Nat.mul_assoc]
  have f4 : feed (c % 256 * 16777216) (c % 256) = 0 := by
    have e1 : c % 256 * 16777216 = (c % 256) * 16777216 + 0 := by omega
    rw [e1, feed_own _ _ (by omega)]
  rw [f1, f2, f3, f4]

/-! ### bits that are others, one behind the other -/
theorem shift_ne {c : Nat} (hc : c < 4294967296) (h : c ≠ 0) : shift c ≠ 0 := by
  intro e
  apply h
  apply Nat.eq_of_testBit_eq
  intro i
  rw [Nat.zero_testBit]
  have hb : ∀ j, (shift c).testBit j = false := fun j => by rw [e]; simp
  have h31 : c.testBit 31 = false := by
    have h0 := hb 0
    unfold shift at h0
    rw [Nat.testBit_xor, double_bit] at h0
    cases h31 : c.testBit 31 with
    | false => rfl
    | true => rw [h31] at h0; simp [poly] at h0
  by_cases hi : i < 31
  · have h1 := hb (i + 1)
    unfold shift at h1
    rw [Nat.testBit_xor, double_bit, h31] at h1
    simpa [show i + 1 < 32 by omega] using h1
  · by_cases h2 : i = 31
    · subst h2; exact h31
    · exact Nat.testBit_lt_two_pow (Nat.lt_of_lt_of_le hc (show 2 ^ 32 ≤ 2 ^ i from Nat.pow_le_pow_right (by decide) (by omega)))
theorem shifts_ne : ∀ (k : Nat) {c : Nat}, c < 4294967296 → c ≠ 0 → shifts k c ≠ 0
  | 0, _, _, h => h
  | k + 1, c, hc, h => shifts_ne k (shift_lt c) (shift_ne hc h)
/-- a low bit stands, and moves up by one at each bit that goes in -/
theorem step_low {c k : Nat} (b : Bool) (hk : k < 31) (h : ∃ t, t ≤ k ∧ c.testBit t = true) : ∃ t, t ≤ k + 1 ∧ (step c b).testBit t = true := by
  obtain ⟨t, ht, hb⟩ := h
  unfold step
  cases hx : (c.testBit 31 != b)
  · refine ⟨t + 1, by omega, ?_⟩
    rw [Nat.testBit_xor, double_bit]
    simp [show t + 1 < 32 by omega, hb]
  · refine ⟨0, by omega, ?_⟩
    rw [Nat.testBit_xor, double_bit]
    simp [poly]
theorem run_low : ∀ (l : List Bool) (c k : Nat), k + l.length ≤ 31 → (∃ t, t ≤ k ∧ c.testBit t = true) → ∃ t, t ≤ 31 ∧ (run c l).testBit t = true
  | [], _, _, hk, ⟨t, ht, hb⟩ => ⟨t, by simp at hk; omega, hb⟩
  | b :: l, c, k, hk, h => by
    have h1 := step_low b (show k < 31 by simp at hk; omega) h
    unfold run
    rw [List.foldl_cons]
    exact run_low l _ (k + 1) (by simp at hk; omega) h1
theorem run_burst : ∀ (l : List Bool), l.length ≤ 32 → true ∈ l → run 0 l ≠ 0
  | [], _, h => by cases h
  | true :: l, hl, _ => by
    have h1 : ∃ t, t ≤ 0 ∧ (step 0 true).testBit t = true := ⟨0, Nat.le_refl _, by decide⟩
    have h2 := run_low l (step 0 true) 0 (by simp at hl; omega) h1
    obtain ⟨t, _, ht⟩ := h2
    intro e
    have e2 : run (step 0 true) l = 0 := e
    rw [e2] at ht; simp at ht
  | false :: l, hl, h => by
    have e : run 0 (false :: l) = run 0 l := by
      unfold run; rw [List.foldl_cons]; rfl
    rw [e]
    exact run_burst l (by simp at hl; omega) (by simpa using h)
theorem run_lt : ∀ (l : List Bool) (c : Nat), c < 4294967296 → run c l < 4294967296
  | [], _, h => h
  | b :: l, c, _ => by
    unfold run; rw [List.foldl_cons]
    exact run_lt l _ (step_lt c b)
/-- THE BURST: zeros, at most 32 bits that are not all zero, zeros: the register does not end at 0. -/
theorem burst (a z : Nat) (l : List Bool) (hl : l.length ≤ 32) (h : true ∈ l) : run 0 (List.replicate a false ++ l ++ List.replicate z false) ≠ 0 := by
  have e0 : ∀ k, shifts k 0 = 0 := by
    intro k
    induction k with
    | zero => rfl
    | succ k ih => unfold shifts; exact ih
  rw [run_append, run_append, run_zeros z, run_zeros a, e0]
  exact shifts_ne z (run_lt l 0 (by decide)) (run_burst l hl h)

/-! ### a page and its sum -/
theorem feed_lt (c b : Nat) : feed c b < 4294967296 := by
  unfold feed
  have : ∀ k c, shifts (k + 1) c < 4294967296 := by
    intro k
    induction k with
    | zero => intro c; exact shift_lt c
    | succ k ih => intro c; unfold shifts; exact ih (shift c)
  exact this 7 _
theorem crc_lt : ∀ (l : List Nat) (c : Nat), c < 4294967296 → crc c l < 4294967296
  | [], _, h => h
  | b :: l, c, _ => by
    unfold crc; rw [List.foldl_cons]
    exact crc_lt l _ (feed_lt c b)
theorem sum_lt (p : Nat) (page : List Nat) : sumOf p page < 4294967296 := by
  unfold sumOf
  exact Nat.xor_lt_two_pow (n := 32) (crc_lt _ _ (by decide)) (by decide)
theorem byte_xor (x y k : Nat) : (x ^^^ y) / 2 ^ k % 256 = (x / 2 ^ k % 256) ^^^ (y / 2 ^ k % 256) := by
  apply Nat.eq_of_testBit_eq
  intro i
  rw [show (256 : Nat) = 2 ^ 8 from rfl, Nat.testBit_xor, Nat.testBit_mod_two_pow, Nat.testBit_mod_two_pow, Nat.testBit_mod_two_pow, Nat.testBit_div_two_pow, Nat.testBit_div_two_pow, Nat.testBit_div_two_pow, Nat.testBit_xor]
  cases decide (i < 8) <;> simp
theorem be4_xor (x y : Nat) : be4 (x ^^^ y) = List.zipWith (· ^^^ ·) (be4 x) (be4 y) := by
  have h0 := byte_xor x y 0
  have h1 := byte_xor x y 8
  have h2 := byte_xor x y 16
  have h3 := byte_xor x y 24
  simp only [Nat.pow_zero, Nat.div_one, Nat.reducePow] at h0 h1 h2 h3
  unfold be4
  simp only [List.zipWith_cons_cons, List.zipWith_nil_left, h0, h1, h2, h3]
theorem zip_zeros (l : List Nat) : List.zipWith (· ^^^ ·) l (List.replicate l.length 0) = l := by
  induction l with
  | nil => rfl
  | cons a l ih => rw [List.length_cons, List.replicate_succ, List.zipWith_cons_cons, ih, Nat.xor_zero]
theorem zip_inj : ∀ (l a b : List Nat), l.length = a.length → l.length = b.length → List.zipWith (· ^^^ ·) l a = List.zipWith (· ^^^ ·) l b → a = b
  | [], [], [], _, _, _ => rfl
  | x :: l, p :: a, q :: b, h1, h2, h => by
    rw [List.zipWith_cons_cons, List.zipWith_cons_cons, List.cons.injEq] at h
    obtain ⟨e1, e2⟩ := h
    have e3 : p = q := by
      have := congrArg (x ^^^ ·) e1
      simpa [← Nat.xor_assoc] using this
    rw [e3, zip_inj l a b (by simpa using h1) (by simpa using h2) e2]
/-- the sum of a page of which some bits are others -/
theorem sum_err (p : Nat) (page err : List Nat) (h : page.length = err.length) : sumOf p (List.zipWith (· ^^^ ·) page err) = sumOf p page ^^^ crc 0 err := by
  unfold sumOf
  have e : be4 p ++ List.zipWith (· ^^^ ·) page err = List.zipWith (· ^^^ ·) (be4 p ++ page) (List.replicate 4 0 ++ err) := by
    rw [List.zipWith_append (by rfl)]
    congr 1
    exact (zip_zeros (be4 p)).symm
  have e2 := crc_xor (be4 p ++ page) (List.replicate 4 0 ++ err) 4294967295 0 (by simp [be4, h])
  rw [Nat.xor_zero] at e2
  rw [e, e2]
  have e3 : crc 0 (List.replicate 4 0 ++ err) = crc 0 err := by
    rw [crc_append]; rfl
  rw [e3, Nat.xor_assoc, Nat.xor_comm (crc 0 err), ← Nat.xor_assoc]
/-- BITS THAT ARE OTHERS ARE TOLD: where all lie within 32 of a page and its sum that lie one behind the other. -/
theorem told (p : Nat) (page ed es : List Nat) (hp : page.length = ed.length) (hs : es.length = 4) (hed : ∀ b ∈ ed, b < 256) (hes : ∀ b ∈ es, b < 256) (a z : Nat) (l : List Bool) (hl : l.length ≤ 32) (ht : true ∈ l)
    (hb : (ed ++ es).flatMap bits8 = List.replicate a false ++ l ++ List.replicate z false) :
    be4 (sumOf p (List.zipWith (· ^^^ ·) page ed)) ≠ List.zipWith (· ^^^ ·) (be4 (sumOf p page)) es := by
  intro e
  rw [sum_err p page ed hp, be4_xor] at e
  have e1 := zip_inj _ _ _ (by rfl) (by rw [hs]; rfl) e
  have e2 : crc 0 (ed ++ es) = 0 := by
    rw [crc_append, ← e1]
    exact crc_own _ (crc_lt _ _ (by decide))
  rw [crc_run _ _ (fun b hb => by rcases List.mem_append.1 hb with h | h; exact hed b h; exact hes b h), hb] at e2
  exact burst a z l hl ht e2
end Go.Proofs.Ytphjbbbnbmafnaa.Crc
