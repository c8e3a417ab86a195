/-
  Plain mathematics of this seat, nothing of the dump: counting the ones of a row of bits ('cnt'), and that the steps of bits.OnesCount64 count the ones of a number below 2^64. No condition.
-/
import Derived.Laws.Bits64
import Derived.Laws.BitsAllLaws
namespace Go.Proofs.YtphjbbbnbmafnabGreatDoor

/-- how many of the first n places say yes -/
def cnt (f : Nat → Bool) : Nat → Nat
  | 0 => 0
  | n + 1 => cnt f n + (f n).toNat

theorem cnt_succ (f : Nat → Bool) (n : Nat) : cnt f (n + 1) = cnt f n + (f n).toNat := rfl
theorem cnt_le (f : Nat → Bool) (n : Nat) : cnt f n ≤ n := by
  induction n with
  | zero => simp [cnt]
  | succ n ih => rw [cnt_succ]; have := Bool.toNat_le (f n); omega
theorem cnt_mono (f : Nat → Bool) {m n : Nat} (h : m ≤ n) : cnt f m ≤ cnt f n := by
  induction n with
  | zero => have : m = 0 := by omega
            subst this; exact Nat.le_refl _
  | succ n ih =>
    by_cases e : m = n + 1
    · subst e; exact Nat.le_refl _
    · rw [cnt_succ]; have := ih (by omega); omega
theorem cnt_add (f : Nat → Bool) (m n : Nat) : cnt f (m + n) = cnt f m + cnt (fun i => f (m + i)) n := by
  induction n with
  | zero => simp [cnt]
  | succ n ih => rw [← Nat.add_assoc, cnt_succ, cnt_succ, ih]; omega
theorem cnt_congr {f g : Nat → Bool} {n : Nat} (h : ∀ i, i < n → f i = g i) : cnt f n = cnt g n := by
  induction n with
  | zero => rfl
  | succ n ih => rw [cnt_succ, cnt_succ, ih (fun i hi => h i (by omega)), h n (by omega)]
theorem cnt_false {f : Nat → Bool} {n : Nat} (h : ∀ i, i < n → f i = false) : cnt f n = 0 := by
  induction n with
  | zero => rfl
  | succ n ih => rw [cnt_succ, ih (fun i hi => h i (by omega)), h n (by omega)]; rfl

/-! ### eight bytes -/
def by8 (a b c d e f g h : Nat) : Nat := a + 256 * (b + 256 * (c + 256 * (d + 256 * (e + 256 * (f + 256 * (g + 256 * h))))))

theorem andSplit (x m : Nat) : x &&& m = (x % 256 &&& m % 256) + 256 * (x / 256 &&& m / 256) := by
  have h := Nat.mod_add_div (x &&& m) 256
  rw [show (256 : Nat) = 2 ^ 8 from rfl] at h ⊢
  rw [← Nat.and_div_two_pow, ← Nat.and_mod_two_pow]
  exact h.symm
theorem and_two (a t b u : Nat) (ha : a < 256) (hb : b < 256) : (a + 256 * t) &&& (b + 256 * u) = (a &&& b) + 256 * (t &&& u) := by
  rw [andSplit]
  rw [show (a + 256 * t) % 256 = a from by omega, show (b + 256 * u) % 256 = b from by omega, show (a + 256 * t) / 256 = t from by omega, show (b + 256 * u) / 256 = u from by omega]
theorem and_by8 (a b c d e f g h a' b' c' d' e' f' g' h' : Nat) (ha : a < 256) (hb : b < 256) (hc : c < 256) (hd : d < 256) (he : e < 256) (hf : f < 256) (hg : g < 256)
    (ha' : a' < 256) (hb' : b' < 256) (hc' : c' < 256) (hd' : d' < 256) (he' : e' < 256) (hf' : f' < 256) (hg' : g' < 256) :
    by8 a b c d e f g h &&& by8 a' b' c' d' e' f' g' h' = by8 (a &&& a') (b &&& b') (c &&& c') (d &&& d') (e &&& e') (f &&& f') (g &&& g') (h &&& h') := by
  unfold by8
  rw [and_two _ _ _ _ ha ha', and_two _ _ _ _ hb hb', and_two _ _ _ _ hc hc', and_two _ _ _ _ hd hd', and_two _ _ _ _ he he', and_two _ _ _ _ hf hf', and_two _ _ _ _ hg hg']
theorem by8_of (x : Nat) (hx : x < 18446744073709551616) : ∃ a b c d e f g h, x = by8 a b c d e f g h ∧ a < 256 ∧ b < 256 ∧ c < 256 ∧ d < 256 ∧ e < 256 ∧ f < 256 ∧ g < 256 ∧ h < 256 := by
  refine ⟨x % 256, x / 256 % 256, x / 65536 % 256, x / 16777216 % 256, x / 4294967296 % 256, x / 1099511627776 % 256, x / 281474976710656 % 256, x / 72057594037927936, ?_, ?_⟩
  · unfold by8; omega
  · omega

def s1 (b : Nat) : Nat := (b / 2 &&& 85) + (b &&& 85)
def s2 (b : Nat) : Nat := (b / 4 &&& 51) + (b &&& 51)
def s3 (b : Nat) : Nat := b / 16 + b % 16

theorem half_and : ∀ (b : Fin 256) (c : Fin 2), (b.val / 2 + 128 * c.val) &&& 85 = b.val / 2 &&& 85 := by decide +kernel
theorem quarter_and : ∀ (b : Fin 256) (c : Fin 4), (b.val / 4 + 64 * c.val) &&& 51 = b.val / 4 &&& 51 := by decide +kernel
theorem s1_lt : ∀ b : Fin 256, s1 b.val < 256 ∧ s2 (s1 b.val) < 256 ∧ s2 (s1 b.val) % 16 ≤ 4 ∧ s2 (s1 b.val) / 16 ≤ 4 ∧ s3 (s2 (s1 b.val)) ≤ 8 := by decide +kernel

def c1 (x : Nat) : Nat := (x / 2 &&& 6148914691236517205) + (x &&& 6148914691236517205)
def c2 (x : Nat) : Nat := (x / 4 &&& 3689348814741910323) + (x &&& 3689348814741910323)
def c3 (x : Nat) : Nat := (x / 16 + x) &&& 1085102592571150095

theorem c1_by8 (a b c d e f g h : Nat) (ha : a < 256) (hb : b < 256) (hc : c < 256) (hd : d < 256) (he : e < 256) (hf : f < 256) (hg : g < 256) :
    c1 (by8 a b c d e f g h) = by8 (s1 a) (s1 b) (s1 c) (s1 d) (s1 e) (s1 f) (s1 g) (s1 h) := by
  have hhalf : by8 a b c d e f g h / 2 = by8 (a / 2 + 128 * (b % 2)) (b / 2 + 128 * (c % 2)) (c / 2 + 128 * (d % 2)) (d / 2 + 128 * (e % 2)) (e / 2 + 128 * (f % 2)) (f / 2 + 128 * (g % 2)) (g / 2 + 128 * (h % 2)) (h / 2) := by
    unfold by8; omega
  have hm : (6148914691236517205 : Nat) = by8 85 85 85 85 85 85 85 85 := by decide +kernel
  have q (x y : Nat) (hx : x < 256) : (x / 2 + 128 * (y % 2)) &&& 85 = x / 2 &&& 85 := half_and ⟨x, hx⟩ ⟨y % 2, by omega⟩
  unfold c1
  rw [hhalf, hm, and_by8 _ _ _ _ _ _ _ _ _ _ _ _ _ _ _ _ (by omega) (by omega) (by omega) (by omega) (by omega) (by omega) (by omega) (by omega) (by omega) (by omega) (by omega) (by omega) (by omega) (by omega),
    and_by8 _ _ _ _ _ _ _ _ _ _ _ _ _ _ _ _ ha hb hc hd he hf hg (by omega) (by omega) (by omega) (by omega) (by omega) (by omega) (by omega)]
  rw [q a b ha, q b c hb, q c d hc, q d e hd, q e f he, q f g hf, q g h hg]
  unfold s1 by8; omega

theorem c2_by8 (a b c d e f g h : Nat) (ha : a < 256) (hb : b < 256) (hc : c < 256) (hd : d < 256) (he : e < 256) (hf : f < 256) (hg : g < 256) :
    c2 (by8 a b c d e f g h) = by8 (s2 a) (s2 b) (s2 c) (s2 d) (s2 e) (s2 f) (s2 g) (s2 h) := by
  have hhalf : by8 a b c d e f g h / 4 = by8 (a / 4 + 64 * (b % 4)) (b / 4 + 64 * (c % 4)) (c / 4 + 64 * (d % 4)) (d / 4 + 64 * (e % 4)) (e / 4 + 64 * (f % 4)) (f / 4 + 64 * (g % 4)) (g / 4 + 64 * (h % 4)) (h / 4) := by
    unfold by8; omega
  have hm : (3689348814741910323 : Nat) = by8 51 51 51 51 51 51 51 51 := by decide +kernel
  have q (x y : Nat) (hx : x < 256) : (x / 4 + 64 * (y % 4)) &&& 51 = x / 4 &&& 51 := quarter_and ⟨x, hx⟩ ⟨y % 4, by omega⟩
  unfold c2
  rw [hhalf, hm, and_by8 _ _ _ _ _ _ _ _ _ _ _ _ _ _ _ _ (by omega) (by omega) (by omega) (by omega) (by omega) (by omega) (by omega) (by omega) (by omega) (by omega) (by omega) (by omega) (by omega) (by omega),
    and_by8 _ _ _ _ _ _ _ _ _ _ _ _ _ _ _ _ ha hb hc hd he hf hg (by omega) (by omega) (by omega) (by omega) (by omega) (by omega) (by omega)]
  rw [q a b ha, q b c hb, q c d hc, q d e hd, q e f he, q f g hf, q g h hg]
  unfold s2 by8; omega

def nib (b : Nat) : Prop := b % 16 ≤ 4 ∧ b / 16 ≤ 4
theorem mask15 (x : Nat) : x &&& 15 = x % 16 := Nat.and_two_pow_sub_one_eq_mod x 4
theorem c3_by8 (a b c d e f g h : Nat) (ha : nib a) (hb : nib b) (hc : nib c) (hd : nib d) (he : nib e) (hf : nib f) (hg : nib g) (hh : nib h) :
    c3 (by8 a b c d e f g h) = by8 (s3 a) (s3 b) (s3 c) (s3 d) (s3 e) (s3 f) (s3 g) (s3 h) := by
  unfold nib at *
  have hsum : by8 a b c d e f g h / 16 + by8 a b c d e f g h = by8 (a / 16 + 16 * (b % 16) + a) (b / 16 + 16 * (c % 16) + b) (c / 16 + 16 * (d % 16) + c) (d / 16 + 16 * (e % 16) + d) (e / 16 + 16 * (f % 16) + e) (f / 16 + 16 * (g % 16) + f) (g / 16 + 16 * (h % 16) + g) (h / 16 + h) := by
    unfold by8; omega
  have hm : (1085102592571150095 : Nat) = by8 15 15 15 15 15 15 15 15 := by decide +kernel
  unfold c3
  rw [hsum, hm, and_by8 _ _ _ _ _ _ _ _ _ _ _ _ _ _ _ _ (by omega) (by omega) (by omega) (by omega) (by omega) (by omega) (by omega) (by omega) (by omega) (by omega) (by omega) (by omega) (by omega) (by omega)]
  simp only [mask15]
  have q (x y : Nat) (hx : x % 16 ≤ 4 ∧ x / 16 ≤ 4) : (x / 16 + 16 * (y % 16) + x) % 16 = s3 x := by unfold s3; omega
  have q0 (x : Nat) (hx : x % 16 ≤ 4 ∧ x / 16 ≤ 4) : (x / 16 + x) % 16 = s3 x := by unfold s3; omega
  rw [q a b ha, q b c hb, q c d hc, q d e hd, q e f he, q f g hf, q g h hg, q0 h hh]

def c4 (x : Nat) : Nat := x + x / 256
def c5 (x : Nat) : Nat := x + x / 65536
def c6 (x : Nat) : Nat := x + x / 4294967296
theorem c456 (a b c d e f g h : Nat) (ha : a ≤ 8) (hb : b ≤ 8) (hc : c ≤ 8) (hd : d ≤ 8) (he : e ≤ 8) (hf : f ≤ 8) (hg : g ≤ 8) (hh : h ≤ 8) :
    c4 (by8 a b c d e f g h) < 18446744073709551616 ∧ c5 (c4 (by8 a b c d e f g h)) < 18446744073709551616 ∧ c6 (c5 (c4 (by8 a b c d e f g h))) < 9223372036854775808 ∧ c6 (c5 (c4 (by8 a b c d e f g h))) % 128 = a + b + c + d + e + f + g + h := by
  have h4 : c4 (by8 a b c d e f g h) = by8 (a + b) (b + c) (c + d) (d + e) (e + f) (f + g) (g + h) h := by unfold c4 by8; omega
  rw [h4]
  have h5 (a b c d e f g h : Nat) (ha : a ≤ 16) (hb : b ≤ 16) (hc : c ≤ 16) (hd : d ≤ 16) (he : e ≤ 16) (hf : f ≤ 16) (hg : g ≤ 16) (hh : h ≤ 16) : c5 (by8 a b c d e f g h) = by8 (a + c) (b + d) (c + e) (d + f) (e + g) (f + h) g h := by unfold c5 by8; omega
  rw [h5 _ _ _ _ _ _ _ _ (by omega) (by omega) (by omega) (by omega) (by omega) (by omega) (by omega) (by omega)]
  have h6 (a b c d e f g h : Nat) (ha : a ≤ 32) (hb : b ≤ 32) (hc : c ≤ 32) (hd : d ≤ 32) (he : e ≤ 32) (hf : f ≤ 32) (hg : g ≤ 32) (hh : h ≤ 32) : c6 (by8 a b c d e f g h) = by8 (a + e) (b + f) (c + g) (d + h) e f g h := by unfold c6 by8; omega
  rw [h6 _ _ _ _ _ _ _ _ (by omega) (by omega) (by omega) (by omega) (by omega) (by omega) (by omega) (by omega)]
  unfold by8
  omega

/-- the ones of a number of 64 bits -/
def pop (x : Nat) : Nat := cnt x.testBit 64
theorem pop_le (x : Nat) : pop x ≤ 64 := cnt_le _ _
theorem pop_byte : ∀ b : Fin 256, s3 (s2 (s1 b.val)) = cnt b.val.testBit 8 := by decide +kernel

theorem cnt_byte (x k : Nat) : cnt (fun i => x.testBit (k + i)) 8 = cnt (x / 2 ^ k % 256).testBit 8 := by
  refine cnt_congr fun i hi => ?_
  rw [show (256 : Nat) = 2 ^ 8 from rfl, Nat.testBit_mod_two_pow, Nat.testBit_div_two_pow]
  simp [hi, Nat.add_comm]
theorem bytes8 (a b c d e f g h : Nat) (ha : a < 256) (hb : b < 256) (hc : c < 256) (hd : d < 256) (he : e < 256) (hf : f < 256) (hg : g < 256) (hh : h < 256) :
    by8 a b c d e f g h / 1 % 256 = a ∧ by8 a b c d e f g h / 256 % 256 = b ∧ by8 a b c d e f g h / 65536 % 256 = c ∧ by8 a b c d e f g h / 16777216 % 256 = d ∧ by8 a b c d e f g h / 4294967296 % 256 = e ∧
    by8 a b c d e f g h / 1099511627776 % 256 = f ∧ by8 a b c d e f g h / 281474976710656 % 256 = g ∧ by8 a b c d e f g h / 72057594037927936 % 256 = h := by
  unfold by8
  refine ⟨by omega, by omega, by omega, by omega, by omega, by omega, by omega, by omega⟩
theorem by8_lt (a b c d e f g h : Nat) (ha : a < 256) (hb : b < 256) (hc : c < 256) (hd : d < 256) (he : e < 256) (hf : f < 256) (hg : g < 256) (hh : h < 256) : by8 a b c d e f g h < 18446744073709551616 := by
  unfold by8; omega
theorem nib_lt (a b c d e f g h : Nat) (hg : nib g) (hh : nib h) (ha : a < 256) (hb : b < 256) (hc : c < 256) (hd : d < 256) (he : e < 256) (hf : f < 256) : by8 a b c d e f g h / 16 + by8 a b c d e f g h < 18446744073709551616 := by
  unfold nib at *
  unfold by8; omega
theorem pop_by8 (a b c d e f g h : Nat) (ha : a < 256) (hb : b < 256) (hc : c < 256) (hd : d < 256) (he : e < 256) (hf : f < 256) (hg : g < 256) (hh : h < 256) :
    pop (by8 a b c d e f g h) = cnt a.testBit 8 + cnt b.testBit 8 + cnt c.testBit 8 + cnt d.testBit 8 + cnt e.testBit 8 + cnt f.testBit 8 + cnt g.testBit 8 + cnt h.testBit 8 := by
  unfold pop
  generalize hx : by8 a b c d e f g h = x
  rw [show (64 : Nat) = 0 + 8 + 8 + 8 + 8 + 8 + 8 + 8 + 8 from rfl]
  rw [cnt_add x.testBit (0 + 8 + 8 + 8 + 8 + 8 + 8 + 8), cnt_add x.testBit (0 + 8 + 8 + 8 + 8 + 8 + 8), cnt_add x.testBit (0 + 8 + 8 + 8 + 8 + 8), cnt_add x.testBit (0 + 8 + 8 + 8 + 8), cnt_add x.testBit (0 + 8 + 8 + 8), cnt_add x.testBit (0 + 8 + 8), cnt_add x.testBit (0 + 8), cnt_add x.testBit 0]
  simp only [cnt_byte]
  have e0 : x / 2 ^ 0 % 256 = a := by rw [← hx]; exact (bytes8 a b c d e f g h ha hb hc hd he hf hg hh).1
  have e1 : x / 2 ^ (0 + 8) % 256 = b := by rw [← hx]; exact (bytes8 a b c d e f g h ha hb hc hd he hf hg hh).2.1
  have e2 : x / 2 ^ (0 + 8 + 8) % 256 = c := by rw [← hx]; exact (bytes8 a b c d e f g h ha hb hc hd he hf hg hh).2.2.1
  have e3 : x / 2 ^ (0 + 8 + 8 + 8) % 256 = d := by rw [← hx]; exact (bytes8 a b c d e f g h ha hb hc hd he hf hg hh).2.2.2.1
  have e4 : x / 2 ^ (0 + 8 + 8 + 8 + 8) % 256 = e := by rw [← hx]; exact (bytes8 a b c d e f g h ha hb hc hd he hf hg hh).2.2.2.2.1
  have e5 : x / 2 ^ (0 + 8 + 8 + 8 + 8 + 8) % 256 = f := by rw [← hx]; exact (bytes8 a b c d e f g h ha hb hc hd he hf hg hh).2.2.2.2.2.1
  have e6 : x / 2 ^ (0 + 8 + 8 + 8 + 8 + 8 + 8) % 256 = g := by rw [← hx]; exact (bytes8 a b c d e f g h ha hb hc hd he hf hg hh).2.2.2.2.2.2.1
  have e7 : x / 2 ^ (0 + 8 + 8 + 8 + 8 + 8 + 8 + 8) % 256 = h := by rw [← hx]; exact (bytes8 a b c d e f g h ha hb hc hd he hf hg hh).2.2.2.2.2.2.2
  rw [e0, e1, e2, e3, e4, e5, e6, e7]
  simp [cnt]

/-- THE STEPS OF bits.OnesCount64: nothing falls out, and they count the ones. -/
theorem steps (x : Nat) (hx : x < 18446744073709551616) :
    c1 x < 18446744073709551616 ∧ c2 (c1 x) < 18446744073709551616 ∧ c2 (c1 x) / 16 + c2 (c1 x) < 18446744073709551616 ∧
    c4 (c3 (c2 (c1 x))) < 18446744073709551616 ∧ c5 (c4 (c3 (c2 (c1 x)))) < 18446744073709551616 ∧ c6 (c5 (c4 (c3 (c2 (c1 x))))) < 9223372036854775808 ∧
    c6 (c5 (c4 (c3 (c2 (c1 x))))) % 128 = pop x := by
  obtain ⟨a, b, c, d, e, f, g, h, rfl, ha, hb, hc, hd, he, hf, hg, hh⟩ := by8_of x hx
  have la := s1_lt ⟨a, ha⟩
  have lb := s1_lt ⟨b, hb⟩
  have lc := s1_lt ⟨c, hc⟩
  have ld := s1_lt ⟨d, hd⟩
  have le := s1_lt ⟨e, he⟩
  have lf := s1_lt ⟨f, hf⟩
  have lg := s1_lt ⟨g, hg⟩
  have lh := s1_lt ⟨h, hh⟩
  rw [pop_by8 a b c d e f g h ha hb hc hd he hf hg hh]
  rw [← pop_byte ⟨a, ha⟩, ← pop_byte ⟨b, hb⟩, ← pop_byte ⟨c, hc⟩, ← pop_byte ⟨d, hd⟩, ← pop_byte ⟨e, he⟩, ← pop_byte ⟨f, hf⟩, ← pop_byte ⟨g, hg⟩, ← pop_byte ⟨h, hh⟩]
  simp only at la lb lc ld le lf lg lh ⊢
  rw [c1_by8 a b c d e f g h ha hb hc hd he hf hg, c2_by8 _ _ _ _ _ _ _ _ la.1 lb.1 lc.1 ld.1 le.1 lf.1 lg.1,
    c3_by8 _ _ _ _ _ _ _ _ ⟨la.2.2.1, la.2.2.2.1⟩ ⟨lb.2.2.1, lb.2.2.2.1⟩ ⟨lc.2.2.1, lc.2.2.2.1⟩ ⟨ld.2.2.1, ld.2.2.2.1⟩ ⟨le.2.2.1, le.2.2.2.1⟩ ⟨lf.2.2.1, lf.2.2.2.1⟩ ⟨lg.2.2.1, lg.2.2.2.1⟩ ⟨lh.2.2.1, lh.2.2.2.1⟩]
  have q := c456 _ _ _ _ _ _ _ _ la.2.2.2.2 lb.2.2.2.2 lc.2.2.2.2 ld.2.2.2.2 le.2.2.2.2 lf.2.2.2.2 lg.2.2.2.2 lh.2.2.2.2
  exact ⟨by8_lt _ _ _ _ _ _ _ _ la.1 lb.1 lc.1 ld.1 le.1 lf.1 lg.1 lh.1, by8_lt _ _ _ _ _ _ _ _ la.2.1 lb.2.1 lc.2.1 ld.2.1 le.2.1 lf.2.1 lg.2.1 lh.2.1,
    nib_lt _ _ _ _ _ _ _ _ ⟨lg.2.2.1, lg.2.2.2.1⟩ ⟨lh.2.2.1, lh.2.2.2.1⟩ la.2.1 lb.2.1 lc.2.1 ld.2.1 le.2.1 lf.2.1, q⟩
end Go.Proofs.YtphjbbbnbmafnabGreatDoor
