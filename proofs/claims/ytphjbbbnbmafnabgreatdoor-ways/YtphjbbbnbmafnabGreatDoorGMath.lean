/-
  The sum of a page, without the program: how a byte and how a bit go into it; that it is linear; that bits which are others, all within 32 that lie one behind the other (of a page and its sum), change it. No condition.
  Edges in their order, each once; how a graph is written as bits: without the program. No condition.
  A list of edges in the order of their labels, what is the same staying as it was: without the program. No condition.
  The halves that slices' symMerge makes: what lies ahead of what; without the program.
  Lists in blocks, each ordered by labels: without the program.
-/
namespace Go.Proofs.YtphjbbbnbmafnabGreatDoor.Crc

def poly : Nat := 79764919
/-- one round: double, and if a one fell out, XOR -/
def shift (c : Nat) : Nat := (2 * c % 4294967296) ^^^ (if c.testBit 31 then poly else 0)
/-- a bit goes in -/
def step (c : Nat) (b : Bool) : Nat := (2 * c % 4294967296) ^^^ (if (c.testBit 31) != b then poly else 0)
/-- so many rounds -/
def shifts : Nat → Nat → Nat
  | 0, c => c
  | k + 1, c => shifts k (shift c)
/-- a byte goes in -/
def feed (c b : Nat) : Nat := shifts 8 (c ^^^ (b * 16777216))
def run (c : Nat) (l : List Bool) : Nat := l.foldl step c
def crc (c : Nat) (l : List Nat) : Nat := l.foldl feed c
/-- a number's four bytes, the highest first -/
def be4 (n : Nat) : List Nat := [n / 16777216 % 256, n / 65536 % 256, n / 256 % 256, n % 256]
/-- the sum of the page with this number -/
def sumOf (number : Nat) (page : List Nat) : Nat := crc 4294967295 (be4 number ++ page) ^^^ 4294967295

theorem shift_lt (c : Nat) : shift c < 4294967296 := by
  unfold shift
  have h1 : 2 * c % 4294967296 < 2 ^ 32 := Nat.mod_lt _ (by decide)
  have h2 : (if c.testBit 31 then poly else 0) < 2 ^ 32 := by split <;> decide
  exact Nat.xor_lt_two_pow h1 h2
theorem step_lt (c : Nat) (b : Bool) : step c b < 4294967296 := by
  unfold step
  have h1 : 2 * c % 4294967296 < 2 ^ 32 := Nat.mod_lt _ (by decide)
  have h2 : (if (c.testBit 31) != b then poly else 0) < 2 ^ 32 := by split <;> decide
  exact Nat.xor_lt_two_pow h1 h2
theorem step_false (c : Nat) : step c false = shift c := by unfold step shift; simp
theorem double_bit (c i : Nat) : (2 * c % 4294967296).testBit i = (decide (i < 32) && decide (0 < i) && c.testBit (i - 1)) := by
  rw [show (4294967296 : Nat) = 2 ^ 32 from rfl, Nat.testBit_mod_two_pow, show 2 * c = 2 ^ 1 * c from rfl, Nat.testBit_two_pow_mul]
  cases i with
  | zero => simp
  | succ i => simp
theorem double_xor (c d : Nat) : 2 * (c ^^^ d) % 4294967296 = (2 * c % 4294967296) ^^^ (2 * d % 4294967296) := by
  apply Nat.eq_of_testBit_eq
  intro i
  rw [Nat.testBit_xor, double_bit, double_bit, double_bit, Nat.testBit_xor]
  cases decide (i < 32) <;> cases decide (0 < i) <;> simp
theorem if_xor (a b : Bool) : (if (a ^^ b) then poly else 0) = (if a then poly else 0) ^^^ (if b then poly else 0) := by
  cases a <;> cases b <;> simp
theorem xor4 (a b c d : Nat) : (a ^^^ b) ^^^ (c ^^^ d) = (a ^^^ c) ^^^ (b ^^^ d) := by
  rw [Nat.xor_assoc, Nat.xor_assoc]; congr 1; rw [← Nat.xor_assoc, ← Nat.xor_assoc, Nat.xor_comm b c]
theorem step_xor (c d : Nat) (a b : Bool) : step (c ^^^ d) (a ^^ b) = step c a ^^^ step d b := by
  unfold step
  have e : (((c ^^^ d).testBit 31) != (a ^^ b)) = ((c.testBit 31 != a) ^^ (d.testBit 31 != b)) := by
    rw [Nat.testBit_xor]
    cases c.testBit 31 <;> cases d.testBit 31 <;> cases a <;> cases b <;> rfl
  rw [e, if_xor, double_xor, xor4]
theorem shift_xor (c d : Nat) : shift (c ^^^ d) = shift c ^^^ shift d := by
  have := step_xor c d false false
  simpa [step_false] using this
theorem shifts_xor (k c d : Nat) : shifts k (c ^^^ d) = shifts k c ^^^ shifts k d := by
  induction k generalizing c d with
  | zero => rfl
  | succ k ih => unfold shifts; rw [shift_xor, ih]
theorem mul_xor (a b : Nat) : (a ^^^ b) * 16777216 = (a * 16777216) ^^^ (b * 16777216) := by
  apply Nat.eq_of_testBit_eq
  intro i
  rw [Nat.testBit_xor, show (16777216 : Nat) = 2 ^ 24 from rfl, Nat.mul_comm _ (2 ^ 24), Nat.mul_comm _ (2 ^ 24), Nat.mul_comm _ (2 ^ 24), Nat.testBit_two_pow_mul, Nat.testBit_two_pow_mul, Nat.testBit_two_pow_mul, Nat.testBit_xor]
  cases decide (i ≥ 24) <;> simp
theorem feed_xor (c d a b : Nat) : feed (c ^^^ d) (a ^^^ b) = feed c a ^^^ feed d b := by
  unfold feed
  rw [mul_xor, xor4, shifts_xor]
theorem crc_xor : ∀ (l m : List Nat) (c d : Nat), l.length = m.length → crc (c ^^^ d) (List.zipWith (· ^^^ ·) l m) = crc c l ^^^ crc d m
  | [], [], _, _, _ => rfl
  | a :: l, b :: m, c, d, h => by
    unfold crc
    rw [List.zipWith_cons_cons, List.foldl_cons, List.foldl_cons, List.foldl_cons, feed_xor]
    exact crc_xor l m _ _ (by simpa using h)

/-! ### bytes and bits -/
/-- a byte's bits, the highest first -/
def bits8 (b : Nat) : List Bool := [b.testBit 7, b.testBit 6, b.testBit 5, b.testBit 4, b.testBit 3, b.testBit 2, b.testBit 1, b.testBit 0]
theorem run_append (c : Nat) (l m : List Bool) : run c (l ++ m) = run (run c l) m := by unfold run; rw [List.foldl_append]
theorem crc_append (c : Nat) (l m : List Nat) : crc c (l ++ m) = crc (crc c l) m := by unfold crc; rw [List.foldl_append]
theorem run_xor : ∀ (l m : List Bool) (c d : Nat), l.length = m.length → run (c ^^^ d) (List.zipWith (· ^^ ·) l m) = run c l ^^^ run d m
  | [], [], _, _, _ => rfl
  | a :: l, b :: m, c, d, h => by
    unfold run
    rw [List.zipWith_cons_cons, List.foldl_cons, List.foldl_cons, List.foldl_cons, step_xor]
    exact run_xor l m _ _ (by simpa using h)
theorem run_zeros (k c : Nat) : run c (List.replicate k false) = shifts k c := by
  induction k generalizing c with
  | zero => rfl
  | succ k ih =>
    rw [List.replicate_succ]
    unfold run
    rw [List.foldl_cons, step_false]
    exact ih (shift c)
theorem feed_zero : ∀ b : Fin 256, feed 0 b.val = run 0 (bits8 b.val) := by decide +kernel
theorem feed_run (c b : Nat) (hb : b < 256) : feed c b = run c (bits8 b) := by
  have h1 : feed c b = feed c 0 ^^^ feed 0 b := by
    have := feed_xor c 0 0 b
    simpa using this
  have h2 : run c (bits8 b) = run c (List.replicate 8 false) ^^^ run 0 (bits8 b) := by
    have := run_xor (List.replicate 8 false) (bits8 b) c 0 rfl
    rw [← this, Nat.xor_zero]
    congr 1
    simp [bits8, List.replicate]
  rw [h1, h2, feed_zero ⟨b, hb⟩, run_zeros]
  unfold feed
  simp
theorem crc_run : ∀ (l : List Nat) (c : Nat), (∀ b ∈ l, b < 256) → crc c l = run c (l.flatMap bits8)
  | [], _, _ => rfl
  | b :: l, c, h => by
    rw [List.flatMap_cons, run_append, ← feed_run c b (h b (List.mem_cons_self ..))]
    unfold crc
    rw [List.foldl_cons]
    exact crc_run l _ (fun x hx => h x (List.mem_cons_of_mem _ hx))

/-! ### its own bytes -/
theorem shifts_low : ∀ k c, c * 2 ^ k < 4294967296 → shifts k c = c * 2 ^ k
  | 0, c, _ => by simp [shifts]
  | k + 1, c, h => by
    have h2 : c * 2 * 2 ^ k < 4294967296 := by rw [Nat.mul_assoc, Nat.mul_comm 2, ← Nat.pow_succ]; exact h
    have hp : 1 ≤ 2 ^ k := Nat.one_le_two_pow
    have hc : c * 2 < 4294967296 := Nat.lt_of_le_of_lt (Nat.le_mul_of_pos_right _ hp) h2
    have hb : c.testBit 31 = false := Nat.testBit_lt_two_pow (by omega)
    unfold shifts
    have e : shift c = c * 2 := by
      unfold shift
      rw [hb]
      simp
      omega
    rw [e, shifts_low k (c * 2) h2, Nat.mul_assoc, Nat.mul_comm 2, ← Nat.pow_succ]
theorem top_xor (a r : Nat) (hr : r < 16777216) : (a * 16777216 + r) ^^^ (a * 16777216) = r := by
  have e : a * 16777216 + r = (a * 16777216) ^^^ r := by
    apply Nat.eq_of_testBit_eq
    intro i
    rw [Nat.testBit_xor, show (16777216 : Nat) = 2 ^ 24 from rfl, Nat.mul_comm a, Nat.testBit_two_pow_mul_add _ (by simpa using hr), Nat.testBit_two_pow_mul]
    by_cases h : i < 24
    · have : ¬ 24 ≤ i := by omega
      simp [h, this]
    · have h2 : 24 ≤ i := by omega
      have h3 : r.testBit i = false := Nat.testBit_lt_two_pow (Nat.lt_of_lt_of_le hr (show 2 ^ 24 ≤ 2 ^ i from Nat.pow_le_pow_right (by decide) h2))
      simp [h, h2, h3]
  rw [e, Nat.xor_comm, ← Nat.xor_assoc, Nat.xor_self, Nat.zero_xor]
theorem feed_own (a r : Nat) (hr : r < 16777216) : feed (a * 16777216 + r) a = r * 256 := by
  unfold feed
  rw [top_xor a r hr, shifts_low 8 r (by omega)]
theorem crc_own (c : Nat) (hc : c < 4294967296) : crc c (be4 c) = 0 := by
  have e0 : c = (c / 16777216 % 256) * 16777216 + c % 16777216 := by omega
  unfold crc be4
  rw [List.foldl_cons, List.foldl_cons, List.foldl_cons, List.foldl_cons, List.foldl_nil]
  have f1 : feed c (c / 16777216 % 256) = c % 16777216 * 256 := by
    conv => lhs; arg 1; rw [e0]
    exact feed_own _ _ (by omega)
  have f2 : feed (c % 16777216 * 256) (c / 65536 % 256) = c % 65536 * 65536 := by
    have e1 : c % 16777216 * 256 = (c / 65536 % 256) * 16777216 + c % 65536 * 256 := by omega
    rw [e1, feed_own _ _ (by omega), Nat.mul_assoc]
  have f3 : feed (c % 65536 * 65536) (c / 256 % 256) = c % 256 * 16777216 := by
    have e1 : c % 65536 * 65536 = (c / 256 % 256) * 16777216 + c % 256 * 65536 := by omega
    rw [e1, feed_own _ _ (by omega), Nat.mul_assoc]
  have f4 : feed (c % 256 * 16777216) (c % 256) = 0 := by
    have e1 : c % 256 * 16777216 = (c % 256) * 16777216 + 0 := by omega
    rw [e1, feed_own _ _ (by omega)]
  rw [f1, f2, f3, f4]

/-! ### bits that are others, one behind the other -/
theorem shift_ne {c : Nat} (hc : c < 4294967296) (h : c ≠ 0) : shift c ≠ 0 := by
  intro e
  apply h
  apply Nat.eq_of_testBit_eq
  intro i
  rw [Nat.zero_testBit]
  have hb : ∀ j, (shift c).testBit j = false := fun j => by rw [e]; simp
  have h31 : c.testBit 31 = false := by
    have h0 := hb 0
    unfold shift at h0
    rw [Nat.testBit_xor, double_bit] at h0
    cases h31 : c.testBit 31 with
    | false => rfl
    | true => rw [h31] at h0; simp [poly] at h0
  by_cases hi : i < 31
  · have h1 := hb (i + 1)
    unfold shift at h1
    rw [Nat.testBit_xor, double_bit, h31] at h1
    simpa [show i + 1 < 32 by omega] using h1
  · by_cases h2 : i = 31
    · subst h2; exact h31
    · exact Nat.testBit_lt_two_pow (Nat.lt_of_lt_of_le hc (show 2 ^ 32 ≤ 2 ^ i from Nat.pow_le_pow_right (by decide) (by omega)))
theorem shifts_ne : ∀ (k : Nat) {c : Nat}, c < 4294967296 → c ≠ 0 → shifts k c ≠ 0
  | 0, _, _, h => h
  | k + 1, c, hc, h => shifts_ne k (shift_lt c) (shift_ne hc h)
/-- a low bit stands, and moves up by one at each bit that goes in -/
theorem step_low {c k : Nat} (b : Bool) (hk : k < 31) (h : ∃ t, t ≤ k ∧ c.testBit t = true) : ∃ t, t ≤ k + 1 ∧ (step c b).testBit t = true := by
  obtain ⟨t, ht, hb⟩ := h
  unfold step
  cases hx : (c.testBit 31 != b)
  · refine ⟨t + 1, by omega, ?_⟩
    rw [Nat.testBit_xor, double_bit]
    simp [show t + 1 < 32 by omega, hb]
  · refine ⟨0, by omega, ?_⟩
    rw [Nat.testBit_xor, double_bit]
    simp [poly]
theorem run_low : ∀ (l : List Bool) (c k : Nat), k + l.length ≤ 31 → (∃ t, t ≤ k ∧ c.testBit t = true) → ∃ t, t ≤ 31 ∧ (run c l).testBit t = true
  | [], _, _, hk, ⟨t, ht, hb⟩ => ⟨t, by simp at hk; omega, hb⟩
  | b :: l, c, k, hk, h => by
    have h1 := step_low b (show k < 31 by simp at hk; omega) h
    unfold run
    rw [List.foldl_cons]
    exact run_low l _ (k + 1) (by simp at hk; omega) h1
theorem run_burst : ∀ (l : List Bool), l.length ≤ 32 → true ∈ l → run 0 l ≠ 0
  | [], _, h => by cases h
  | true :: l, hl, _ => by
    have h1 : ∃ t, t ≤ 0 ∧ (step 0 true).testBit t = true := ⟨0, Nat.le_refl _, by decide⟩
    have h2 := run_low l (step 0 true) 0 (by simp at hl; omega) h1
    obtain ⟨t, _, ht⟩ := h2
    intro e
    have e2 : run (step 0 true) l = 0 := e
    rw [e2] at ht; simp at ht
  | false :: l, hl, h => by
    have e : run 0 (false :: l) = run 0 l := by
      unfold run; rw [List.foldl_cons]; rfl
    rw [e]
    exact run_burst l (by simp at hl; omega) (by simpa using h)
theorem run_lt : ∀ (l : List Bool) (c : Nat), c < 4294967296 → run c l < 4294967296
  | [], _, h => h
  | b :: l, c, _ => by
    unfold run; rw [List.foldl_cons]
    exact run_lt l _ (step_lt c b)
/-- THE BURST: zeros, at most 32 bits that are not all zero, zeros: the register does not end at 0. -/
theorem burst (a z : Nat) (l : List Bool) (hl : l.length ≤ 32) (h : true ∈ l) : run 0 (List.replicate a false ++ l ++ List.replicate z false) ≠ 0 := by
  have e0 : ∀ k, shifts k 0 = 0 := by
    intro k
    induction k with
    | zero => rfl
    | succ k ih => unfold shifts; exact ih
  rw [run_append, run_append, run_zeros z, run_zeros a, e0]
  exact shifts_ne z (run_lt l 0 (by decide)) (run_burst l hl h)

/-! ### a page and its sum -/
theorem feed_lt (c b : Nat) : feed c b < 4294967296 := by
  unfold feed
  have : ∀ k c, shifts (k + 1) c < 4294967296 := by
    intro k
    induction k with
    | zero => intro c; exact shift_lt c
    | succ k ih => intro c; unfold shifts; exact ih (shift c)
  exact this 7 _
theorem crc_lt : ∀ (l : List Nat) (c : Nat), c < 4294967296 → crc c l < 4294967296
  | [], _, h => h
  | b :: l, c, _ => by
    unfold crc; rw [List.foldl_cons]
    exact crc_lt l _ (feed_lt c b)
theorem sum_lt (p : Nat) (page : List Nat) : sumOf p page < 4294967296 := by
  unfold sumOf
  exact Nat.xor_lt_two_pow (n := 32) (crc_lt _ _ (by decide)) (by decide)
theorem byte_xor (x y k : Nat) : (x ^^^ y) / 2 ^ k % 256 = (x / 2 ^ k % 256) ^^^ (y / 2 ^ k % 256) := by
  apply Nat.eq_of_testBit_eq
  intro i
  rw [show (256 : Nat) = 2 ^ 8 from rfl, Nat.testBit_xor, Nat.testBit_mod_two_pow, Nat.testBit_mod_two_pow, Nat.testBit_mod_two_pow, Nat.testBit_div_two_pow, Nat.testBit_div_two_pow, Nat.testBit_div_two_pow, Nat.testBit_xor]
  cases decide (i < 8) <;> simp
theorem be4_xor (x y : Nat) : be4 (x ^^^ y) = List.zipWith (· ^^^ ·) (be4 x) (be4 y) := by
  have h0 := byte_xor x y 0
  have h1 := byte_xor x y 8
  have h2 := byte_xor x y 16
  have h3 := byte_xor x y 24
  simp only [Nat.pow_zero, Nat.div_one, Nat.reducePow] at h0 h1 h2 h3
  unfold be4
  simp only [List.zipWith_cons_cons, List.zipWith_nil_left, h0, h1, h2, h3]
theorem zip_zeros (l : List Nat) : List.zipWith (· ^^^ ·) l (List.replicate l.length 0) = l := by
  induction l with
  | nil => rfl
  | cons a l ih => rw [List.length_cons, List.replicate_succ, List.zipWith_cons_cons, ih, Nat.xor_zero]
theorem zip_inj : ∀ (l a b : List Nat), l.length = a.length → l.length = b.length → List.zipWith (· ^^^ ·) l a = List.zipWith (· ^^^ ·) l b → a = b
  | [], [], [], _, _, _ => rfl
  | x :: l, p :: a, q :: b, h1, h2, h => by
    rw [List.zipWith_cons_cons, List.zipWith_cons_cons, List.cons.injEq] at h
    obtain ⟨e1, e2⟩ := h
    have e3 : p = q := by
      have := congrArg (x ^^^ ·) e1
      simpa [← Nat.xor_assoc] using this
    rw [e3, zip_inj l a b (by simpa using h1) (by simpa using h2) e2]
/-- the sum of a page of which some bits are others -/
theorem sum_err (p : Nat) (page err : List Nat) (h : page.length = err.length) : sumOf p (List.zipWith (· ^^^ ·) page err) = sumOf p page ^^^ crc 0 err := by
  unfold sumOf
  have e : be4 p ++ List.zipWith (· ^^^ ·) page err = List.zipWith (· ^^^ ·) (be4 p ++ page) (List.replicate 4 0 ++ err) := by
    rw [List.zipWith_append (by rfl)]
    congr 1
    exact (zip_zeros (be4 p)).symm
  have e2 := crc_xor (be4 p ++ page) (List.replicate 4 0 ++ err) 4294967295 0 (by simp [be4, h])
  rw [Nat.xor_zero] at e2
  rw [e, e2]
  have e3 : crc 0 (List.replicate 4 0 ++ err) = crc 0 err := by
    rw [crc_append]; rfl
  rw [e3, Nat.xor_assoc, Nat.xor_comm (crc 0 err), ← Nat.xor_assoc]
/-- BITS THAT ARE OTHERS ARE TOLD: where all lie within 32 of a page and its sum that lie one behind the other. -/
theorem told (p : Nat) (page ed es : List Nat) (hp : page.length = ed.length) (hs : es.length = 4) (hed : ∀ b ∈ ed, b < 256) (hes : ∀ b ∈ es, b < 256) (a z : Nat) (l : List Bool) (hl : l.length ≤ 32) (ht : true ∈ l)
    (hb : (ed ++ es).flatMap bits8 = List.replicate a false ++ l ++ List.replicate z false) :
    be4 (sumOf p (List.zipWith (· ^^^ ·) page ed)) ≠ List.zipWith (· ^^^ ·) (be4 (sumOf p page)) es := by
  intro e
  rw [sum_err p page ed hp, be4_xor] at e
  have e1 := zip_inj _ _ _ (by rfl) (by rw [hs]; rfl) e
  have e2 : crc 0 (ed ++ es) = 0 := by
    rw [crc_append, ← e1]
    exact crc_own _ (crc_lt _ _ (by decide))
  rw [crc_run _ _ (fun b hb => by rcases List.mem_append.1 hb with h | h; exact hed b h; exact hes b h), hb] at e2
  exact burst a z l hl ht e2
end Go.Proofs.YtphjbbbnbmafnabGreatDoor.Crc

namespace Go.Proofs.YtphjbbbnbmafnabGreatDoor.Gm

/-- an edge: from, label, to -/
abbrev E3 := Int × Int × Int
/-- an edge is ahead of another -/
def ltE (a b : E3) : Bool := if a.1 = b.1 then (if a.2.1 = b.2.1 then decide (a.2.2 < b.2.2) else decide (a.2.1 < b.2.1)) else decide (a.1 < b.1)
theorem ltE_iff (a b : E3) : ltE a b = true ↔ a.1 < b.1 ∨ (a.1 = b.1 ∧ (a.2.1 < b.2.1 ∨ (a.2.1 = b.2.1 ∧ a.2.2 < b.2.2))) := by
  unfold ltE
  split
  · split
    · simp; omega
    · simp; omega
  · simp; omega
theorem ltE_no (a b : E3) : ltE a b = false ↔ ¬ (a.1 < b.1 ∨ (a.1 = b.1 ∧ (a.2.1 < b.2.1 ∨ (a.2.1 = b.2.1 ∧ a.2.2 < b.2.2)))) := by
  rw [← ltE_iff]; simp
theorem ltE_irrefl (a : E3) : ltE a a = false := by rw [ltE_no]; omega
theorem ltE_trans (a b c : E3) (h1 : ltE a b = true) (h2 : ltE b c = true) : ltE a c = true := by
  rw [ltE_iff] at *; omega
theorem ltE_ntrans (a b c : E3) (h1 : ltE a b = false) (h2 : ltE b c = false) : ltE a c = false := by
  rw [ltE_no] at *; omega
theorem ltE_one (a b : E3) (h1 : ltE a b = false) (h2 : ltE b a = false) : a = b := by
  rw [ltE_no] at *
  obtain ⟨a1, a2, a3⟩ := a
  obtain ⟨b1, b2, b3⟩ := b
  simp only at h1 h2
  have e1 : a1 = b1 := by omega
  have e2 : a2 = b2 := by omega
  have e3 : a3 = b3 := by omega
  rw [e1, e2, e3]
/-- in order, each once -/
abbrev Strict (l : List E3) : Prop := l.Pairwise fun a b => ltE a b = true
/-- two lists in order, each once, of the same edges are one -/
theorem strict_one : ∀ (l m : List E3), Strict l → Strict m → (∀ x, x ∈ l ↔ x ∈ m) → l = m
  | [], [], _, _, _ => rfl
  | [], b :: m, _, _, h => by have := (h b).2 (List.mem_cons_self ..); cases this
  | a :: l, [], _, _, h => by have := (h a).1 (List.mem_cons_self ..); cases this
  | a :: l, b :: m, hl, hm, h => by
    rw [Strict, List.pairwise_cons] at hl hm
    have e : a = b := by
      rcases List.mem_cons.1 ((h a).1 (List.mem_cons_self ..)) with e | ha
      · exact e
      · rcases List.mem_cons.1 ((h b).2 (List.mem_cons_self ..)) with e | hb
        · exact e.symm
        · have h1 := hm.1 a ha
          have h2 := hl.1 b hb
          have h3 := ltE_trans _ _ _ h1 h2
          rw [ltE_irrefl] at h3; cases h3
    subst e
    rw [strict_one l m hl.2 hm.2 (fun x => ?_)]
    constructor
    · intro hx
      rcases List.mem_cons.1 ((h x).1 (List.mem_cons_of_mem _ hx)) with e | hx'
      · subst e
        have := hl.1 x hx
        rw [ltE_irrefl] at this; cases this
      · exact hx'
    · intro hx
      rcases List.mem_cons.1 ((h x).2 (List.mem_cons_of_mem _ hx)) with e | hx'
      · subst e
        have := hm.1 x hx
        rw [ltE_irrefl] at this; cases this
      · exact hx'

/-! ### what is the same as the one ahead of it falls -/
def ddF (p : E3) : List E3 → List E3
  | [] => []
  | x :: l => if x = p then ddF p l else x :: ddF x l
def dd : List E3 → List E3
  | [] => []
  | a :: l => a :: ddF a l
theorem ddF_mem : ∀ (l : List E3) (p x : E3), (x = p ∨ x ∈ ddF p l) ↔ (x = p ∨ x ∈ l)
  | [], _, _ => by simp [ddF]
  | y :: l, p, x => by
    unfold ddF
    by_cases h : y = p
    · rw [if_pos h, ddF_mem l p x, h]; simp
    · rw [if_neg h, List.mem_cons, List.mem_cons, ddF_mem l y x]
theorem dd_mem (l : List E3) (x : E3) : x ∈ dd l ↔ x ∈ l := by
  cases l with
  | nil => rfl
  | cons a l => unfold dd; rw [List.mem_cons, List.mem_cons, ddF_mem]
theorem ddF_strict : ∀ (l : List E3) (p : E3), (p :: l).Pairwise (fun a b => ltE b a = false) → Strict (p :: ddF p l)
  | [], p, _ => by simp [ddF]
  | y :: l, p, h => by
    unfold ddF
    rw [List.pairwise_cons, List.pairwise_cons] at h
    obtain ⟨h1, h2, h3⟩ := h
    by_cases e : y = p
    · rw [if_pos e]
      exact ddF_strict l p (List.pairwise_cons.2 ⟨fun b hb => h1 b (List.mem_cons_of_mem _ hb), h3⟩)
    · rw [if_neg e]
      have ih := ddF_strict l y (List.pairwise_cons.2 ⟨h2, h3⟩)
      refine List.pairwise_cons.2 ⟨fun b hb => ?_, ih⟩
      have hy : ltE p y = true := by
        cases hc : ltE p y with
        | true => rfl
        | false => exact absurd (ltE_one _ _ (h1 y (List.mem_cons_self ..)) hc) e
      rcases List.mem_cons.1 hb with e2 | hb2
      · rw [e2]; exact hy
      · exact ltE_trans _ _ _ hy ((List.pairwise_cons.1 ih).1 b hb2)
theorem dd_strict (l : List E3) (h : l.Pairwise (fun a b => ltE b a = false)) : Strict (dd l) := by
  cases l with
  | nil => exact List.Pairwise.nil
  | cons a l => exact ddF_strict l a h
theorem ddF_len : ∀ (l : List E3) (p : E3), (ddF p l).length ≤ l.length
  | [], _ => Nat.le_refl _
  | y :: l, p => by
    unfold ddF
    split
    · exact Nat.le_succ_of_le (ddF_len l p)
    · exact Nat.succ_le_succ (ddF_len l y)
theorem dd_len (l : List E3) : (dd l).length ≤ l.length := by
  cases l with
  | nil => exact Nat.le_refl _
  | cons a l => exact Nat.succ_le_succ (ddF_len l a)
theorem ddF_snoc : ∀ (l : List E3) (p x : E3), ddF p (l ++ [x]) = ddF p l ++ (if x = (p :: l).getLast (List.cons_ne_nil _ _) then [] else [x])
  | [], p, x => by
    by_cases h : x = p <;> simp [ddF, h]
  | y :: l, p, x => by
    rw [List.cons_append]
    unfold ddF
    have e : (p :: y :: l).getLast (List.cons_ne_nil _ _) = (y :: l).getLast (List.cons_ne_nil _ _) := List.getLast_cons (List.cons_ne_nil _ _)
    by_cases h : y = p
    · rw [if_pos h, if_pos h, ddF_snoc l p x, e]
      subst h; rfl
    · rw [if_neg h, if_neg h, ddF_snoc l y x, e, List.cons_append]
theorem dd_snoc (l : List E3) (h : l ≠ []) (x : E3) : dd (l ++ [x]) = dd l ++ (if x = l.getLast h then [] else [x]) := by
  cases l with
  | nil => exact absurd rfl h
  | cons a l => show a :: ddF a (l ++ [x]) = _; rw [ddF_snoc]; rfl
/-- edges in order, each once -/
def ordE (l : List E3) : List E3 := dd (l.mergeSort fun x y => !ltE y x)
theorem sort_pair (l : List E3) : (l.mergeSort fun x y => !ltE y x).Pairwise (fun a b => ltE b a = false) := by
  have h := List.pairwise_mergeSort (le := fun x y => !ltE y x) (fun a b c h1 h2 => by
    simp at h1 h2 ⊢
    exact ltE_ntrans _ _ _ h2 h1) (fun a b => by
    cases h1 : ltE b a with
    | false => simp
    | true =>
      cases h2 : ltE a b with
      | false => simp
      | true => have := ltE_trans _ _ _ h1 h2; rw [ltE_irrefl] at this; cases this) l
  exact h.imp (fun hab => by simpa using hab)
theorem ordE_strict (l : List E3) : Strict (ordE l) := dd_strict _ (sort_pair l)
theorem ordE_mem (l : List E3) (x : E3) : x ∈ ordE l ↔ x ∈ l := by
  unfold ordE
  rw [dd_mem]
  exact (List.mergeSort_perm l _).mem_iff
theorem ordE_len (l : List E3) : (ordE l).length ≤ l.length := by
  have := dd_len (l.mergeSort fun x y => !ltE y x)
  rwa [List.length_mergeSort] at this
theorem ordE_one (l m : List E3) (hm : Strict m) (h : ∀ x, x ∈ m ↔ x ∈ l) : m = ordE l :=
  strict_one _ _ hm (ordE_strict l) (fun x => by rw [h, ordE_mem])
theorem ordE_self (l : List E3) (h : Strict l) : ordE l = l := (ordE_one l l h (fun _ => Iff.rfl)).symm

/-! ### what a graph may be -/
abbrev edgeOk (n s : Int) (e : E3) : Prop := 0 ≤ e.1 ∧ e.1 < n ∧ 0 ≤ e.2.1 ∧ e.2.1 < s ∧ 0 ≤ e.2.2 ∧ e.2.2 < n
abbrev sizeOk (n s : Int) (m : Nat) : Prop := 1 ≤ n ∧ n ≤ 10000 ∧ 1 ≤ s ∧ s ≤ 26 ∧ m ≤ 20000

/-! ### how many edges are from nodes ahead -/
/-- edges by where they are from -/
abbrev Rising (l : List E3) : Prop := l.Pairwise fun a b => a.1 ≤ b.1
theorem strict_rising {l : List E3} (h : Strict l) : Rising l := h.imp (fun hab => by rw [ltE_iff] at hab; omega)
/-- how many edges are from nodes ahead of u -/
def ah (l : List E3) (u : Nat) : Nat := l.countP fun e => decide (e.1 < (u : Int))
theorem ah_le (l : List E3) (u : Nat) : ah l u ≤ l.length := List.countP_le_length
theorem ah_mono (l : List E3) {u v : Nat} (h : u ≤ v) : ah l u ≤ ah l v := by
  unfold ah
  exact List.countP_mono_left (fun x _ hx => by simp at hx ⊢; omega)
theorem ah_zero (l : List E3) (h : ∀ e ∈ l, 0 ≤ e.1) : ah l 0 = 0 := by
  unfold ah
  rw [List.countP_eq_zero]
  intro e he
  have := h e he
  simp; omega
theorem ah_all (l : List E3) (n : Nat) (h : ∀ e ∈ l, e.1 < (n : Int)) : ah l n = l.length := by
  unfold ah
  rw [List.countP_eq_length]
  intro e he
  simpa using h e he
/-- the edge at a place is from ahead of u just if the place is ahead of their number -/
theorem ah_at : ∀ (l : List E3) (u i : Nat) (e : E3), Rising l → l[i]? = some e → (e.1 < (u : Int) ↔ i < ah l u)
  | [], _, _, _, _, h => by cases h
  | a :: l, u, i, e, hr, h => by
    rw [Rising, List.pairwise_cons] at hr
    unfold ah
    rw [List.countP_cons]
    cases i with
    | zero =>
      simp at h; subst h
      by_cases ha : a.1 < (u : Int)
      · simp [ha]
      · have h0 : l.countP (fun e => decide (e.1 < (u : Int))) = 0 := by
          rw [List.countP_eq_zero]
          intro b hb
          have := hr.1 b hb
          simp; omega
        rw [h0]; simp [ha]
    | succ i =>
      have h' : l[i]? = some e := by simpa using h
      have ih := ah_at l u i e hr.2 h'
      unfold ah at ih
      by_cases ha : a.1 < (u : Int)
      · simp only [ha, decide_true, if_true]; omega
      · have h0 : l.countP (fun e => decide (e.1 < (u : Int))) = 0 := by
          rw [List.countP_eq_zero]
          intro b hb
          have := hr.1 b hb
          simp; omega
        have he := hr.1 e (List.mem_of_getElem? h')
        rw [h0]; simp [ha]; omega
end Go.Proofs.YtphjbbbnbmafnabGreatDoor.Gm

namespace Go.Proofs.YtphjbbbnbmafnabGreatDoor.Gm

/-- ahead by its label; else as before -/
def lt2 (a b : E3) : Bool := if a.2.1 = b.2.1 then ltE a b else decide (a.2.1 < b.2.1)
theorem lt2_iff (a b : E3) : lt2 a b = true ↔ a.2.1 < b.2.1 ∨ (a.2.1 = b.2.1 ∧ ltE a b = true) := by
  unfold lt2
  by_cases h : a.2.1 = b.2.1
  · rw [if_pos h]; constructor
    · intro h2; exact .inr ⟨h, h2⟩
    · rintro (h2 | ⟨_, h2⟩)
      · omega
      · exact h2
  · rw [if_neg h, decide_eq_true_iff]; constructor
    · intro h2; exact .inl h2
    · rintro (h2 | ⟨h2, _⟩)
      · exact h2
      · exact absurd h2 h
theorem lt2_trans (a b c : E3) (h1 : lt2 a b = true) (h2 : lt2 b c = true) : lt2 a c = true := by
  rw [lt2_iff] at *
  rcases h1 with h1 | ⟨e1, h1⟩ <;> rcases h2 with h2 | ⟨e2, h2⟩
  · left; omega
  · left; omega
  · left; omega
  · right; exact ⟨by omega, ltE_trans a b c h1 h2⟩
theorem lt2_irrefl (a : E3) : lt2 a a = false := by
  rw [← Bool.not_eq_true, lt2_iff, ltE_irrefl]
  simp
theorem lt2_asymm (a b : E3) (h : lt2 a b = true) : lt2 b a = false := by
  rw [← Bool.not_eq_true]
  intro h2
  have := lt2_trans a b a h h2
  rw [lt2_irrefl] at this
  cases this
/-- the later of two: ahead just if its label is less -/
theorem lt2_late (x y : E3) (h : ltE y x = true) : (lt2 x y = true ↔ x.2.1 < y.2.1) ∧ (lt2 y x = true ↔ ¬ x.2.1 < y.2.1) := by
  have h2 : ¬ ltE x y = true := by
    intro h2
    have := ltE_trans x y x h2 h
    rw [ltE_irrefl] at this; cases this
  rw [lt2_iff, lt2_iff]
  constructor
  · constructor
    · rintro (h3 | ⟨_, h3⟩)
      · exact h3
      · exact absurd h3 h2
    · exact .inl
  · constructor
    · rintro (h3 | ⟨h3, _⟩) <;> omega
    · intro h3
      rcases Int.lt_or_le y.2.1 x.2.1 with h4 | h4
      · exact .inl h4
      · exact .inr ⟨by omega, h⟩
/-- in that order -/
def S2 (l : List E3) : Prop := l.Pairwise fun a b => lt2 a b = true
theorem s2_one : ∀ (l m : List E3), S2 l → S2 m → l.Perm m → l = m
  | [], m, _, _, h => by rw [h.nil_eq]
  | a :: l, [], _, _, h => by simp at h
  | a :: l, b :: m, hl, hm, h => by
    have e : a = b := by
      rcases List.mem_cons.1 (h.mem_iff.1 (List.mem_cons_self)) with e | e
      · exact e
      · rcases List.mem_cons.1 (h.mem_iff.2 (List.mem_cons_self)) with e2 | e2
        · exact e2.symm
        · have h1 := (List.pairwise_cons.1 hl).1 b e2
          have h2 := (List.pairwise_cons.1 hm).1 a e
          rw [lt2_asymm _ _ h1] at h2; cases h2
    subst e
    rw [s2_one l m (List.pairwise_cons.1 hl).2 (List.pairwise_cons.1 hm).2 (h.cons_inv)]
/-- put in between -/
theorem s2_between (A B : List E3) (x : E3) (h : S2 (A ++ B)) (hb : ∀ z ∈ B, lt2 x z = true) (ha : ∀ z ∈ A, lt2 z x = true) : S2 (A ++ x :: B) := by
  unfold S2 at *
  rw [List.pairwise_append] at *
  refine ⟨h.1, List.pairwise_cons.2 ⟨hb, h.2.1⟩, fun y hy z hz => ?_⟩
  rcases List.mem_cons.1 hz with rfl | hz
  · exact ha y hy
  · exact h.2.2 y hy z hz
/-- what is ahead of the last of a list is ahead of what that is ahead of -/
theorem s2_last (A : List E3) (y x : E3) (h : S2 (A ++ [y])) (hy : lt2 y x = true) : ∀ z ∈ A ++ [y], lt2 z x = true := by
  intro z hz
  rcases List.mem_append.1 hz with hz | hz
  · have := (List.pairwise_append.1 h).2.2 z hz y (List.mem_singleton.2 rfl)
    exact lt2_trans z y x this hy
  · rw [List.mem_singleton.1 hz]; exact hy
end Go.Proofs.YtphjbbbnbmafnabGreatDoor.Gm

namespace Go.Proofs.YtphjbbbnbmafnabGreatDoor.Gm

theorem perm4 (A1 A2 B1 B2 M1 M2 : List E3) (h1 : M1.Perm (A1 ++ B1)) (h2 : M2.Perm (A2 ++ B2)) : (M1 ++ M2).Perm (A1 ++ A2 ++ (B1 ++ B2)) := by
  refine (h1.append h2).trans ?_
  rw [List.append_assoc, List.append_assoc]
  refine List.Perm.append_left A1 ?_
  rw [← List.append_assoc, ← List.append_assoc]
  exact List.Perm.append_right B2 List.perm_append_comm
/-- two halves, of which each is in order, and the first ahead of the second -/
theorem s2_halves (A1 A2 B1 B2 M1 M2 : List E3) (hA : S2 (A1 ++ A2)) (hB : S2 (B1 ++ B2)) (hbef : ∀ x ∈ A1 ++ A2, ∀ y ∈ B1 ++ B2, ltE x y = true)
    (h12 : ∀ x ∈ A1, ∀ y ∈ B2, ¬ y.2.1 < x.2.1) (h21 : ∀ y ∈ B1, ∀ x ∈ A2, y.2.1 < x.2.1) (p1 : M1.Perm (A1 ++ B1)) (p2 : M2.Perm (A2 ++ B2)) (s1 : S2 M1) (s2 : S2 M2) : S2 (M1 ++ M2) := by
  refine List.pairwise_append.2 ⟨s1, s2, fun u hu v hv => ?_⟩
  rcases List.mem_append.1 (p1.mem_iff.1 hu) with hu | hu <;> rcases List.mem_append.1 (p2.mem_iff.1 hv) with hv | hv
  · exact (List.pairwise_append.1 hA).2.2 u hu v hv
  · exact ((lt2_late v u (hbef u (List.mem_append_left _ hu) v (List.mem_append_right _ hv))).2).2 (h12 u hu v hv)
  · exact ((lt2_late u v (hbef v (List.mem_append_right _ hv) u (List.mem_append_left _ hu))).1).2 (h21 u hu v hv)
  · exact (List.pairwise_append.1 hB).2.2 u hu v hv
end Go.Proofs.YtphjbbbnbmafnabGreatDoor.Gm

namespace Go.Proofs.YtphjbbbnbmafnabGreatDoor.Gm

/-- blocks of k: each a stretch of the list, ordered by labels -/
def Blocks (k : Nat) (L R : List E3) : Prop := R.length = L.length ∧ ∀ q, S2 ((R.drop (k * q)).take k) ∧ ((R.drop (k * q)).take k).Perm ((L.drop (k * q)).take k)
theorem blocks_nil (k : Nat) : Blocks k [] [] := ⟨rfl, fun q => by simp [S2]⟩
theorem blocks_app {k : Nat} {L1 R1 S S' : List E3} (h : Blocks k L1 R1) (j : Nat) (hj : L1.length = k * j) (hS : S2 S') (hp : S'.Perm S) (hl : S.length ≤ k) : Blocks k (L1 ++ S) (R1 ++ S') := by
  have hlen := hp.length_eq
  refine ⟨by rw [List.length_append, List.length_append, h.1, hlen], fun q => ?_⟩
  have hR := h.1
  rcases Nat.lt_or_ge q j with hq | hq
  · have hkq : k * q + k ≤ k * j := by
      have := Nat.mul_le_mul_left k (show q + 1 ≤ j by omega)
      rw [Nat.mul_add, Nat.mul_one] at this; exact this
    rw [List.drop_append_of_le_length (by omega), List.drop_append_of_le_length (by omega), List.take_append_of_le_length (by rw [List.length_drop]; omega), List.take_append_of_le_length (by rw [List.length_drop]; omega)]
    exact h.2 q
  · rcases Nat.eq_or_lt_of_le hq with e | hlt
    · subst e
      rw [← hj, List.drop_left, List.take_of_length_le hl]
      have e2 : (R1 ++ S').drop L1.length = S' := by rw [← hR, List.drop_left]
      rw [e2, List.take_of_length_le (by omega)]
      exact ⟨hS, hp⟩
    · have hkq : k * j + k ≤ k * q := by
        have := Nat.mul_le_mul_left k (show j + 1 ≤ q by omega)
        rw [Nat.mul_add, Nat.mul_one] at this; exact this
      rw [List.drop_eq_nil_of_le (by rw [List.length_append]; omega), List.drop_eq_nil_of_le (by rw [List.length_append]; omega)]
      simp [S2]
theorem blocks_drop {k : Nat} {L R : List E3} (h : Blocks k L R) (j : Nat) : Blocks k (L.drop (k * j)) (R.drop (k * j)) := by
  refine ⟨by rw [List.length_drop, List.length_drop, h.1], fun q => ?_⟩
  rw [List.drop_drop, List.drop_drop, ← Nat.mul_add]
  exact h.2 (j + q)
theorem blocks_one {k : Nat} {L R : List E3} (h : Blocks k L R) (hk : L.length ≤ k) : S2 R ∧ R.Perm L := by
  have h0 := h.2 0
  rw [Nat.mul_zero, List.drop_zero, List.drop_zero, List.take_of_length_le (by rw [h.1]; exact hk), List.take_of_length_le hk] at h0
  exact h0
/-- the first two blocks -/
theorem blocks_two {k : Nat} {L R : List E3} (h : Blocks k L R) (hL : Strict L) : S2 (R.take k) ∧ S2 ((R.drop k).take k) ∧ (R.take k).Perm (L.take k) ∧ ((R.drop k).take k).Perm ((L.drop k).take k) ∧ ∀ x ∈ R.take k, ∀ y ∈ (R.drop k).take k, ltE x y = true := by
  have h0 := h.2 0
  have h1 := h.2 1
  rw [Nat.mul_zero, List.drop_zero, List.drop_zero] at h0
  rw [Nat.mul_one] at h1
  refine ⟨h0.1, h1.1, h0.2, h1.2, fun x hx y hy => ?_⟩
  have hx2 := h0.2.mem_iff.1 hx
  have hy2 := List.mem_of_mem_take (h1.2.mem_iff.1 hy)
  have hS : (L.take k ++ L.drop k).Pairwise (fun a b => ltE a b = true) := by rw [List.take_append_drop]; exact hL
  exact (List.pairwise_append.1 hS).2.2 x hx2 y hy2
end Go.Proofs.YtphjbbbnbmafnabGreatDoor.Gm
